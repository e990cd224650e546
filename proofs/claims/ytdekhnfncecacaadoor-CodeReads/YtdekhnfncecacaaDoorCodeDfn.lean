/- The document's own reader: a function. -/
import Derived.Test.YtdekhnfncecacaaDoorCodeRdr
namespace Go.Proofs.YtdekhnfncecacaaDoor
set_option maxRecDepth 100000
open Go.RowKit Go.Maps Go.ChangeShapes Go.WideShapes Go.ChangeAt Go.Deep

theorem setN_tr {w : World} {rb : Nat} (b : Nat) (hb : w.heap.size ≤ b) : ∀ (vs : List Value) (W : World) (off : Nat), Tr w W rb → Tr w (setN W b off vs) rb
  | [], _, _, h => h
  | v :: vs, _, off, h => setN_tr b hb vs _ (off + 1) ⟨h.os, h.tape, h.output, by rw [World.size_setCell]; exact h.size, fun k h1 h2 => (heap_set _ _ (by show k ≠ b; omega)).trans (h.block k h1 h2)⟩
theorem tr_cell {w w' : World} {rb b i : Nat} {v : Value} (t : Tr w w' rb) (h : w.cell? ⟨b, i, none⟩ = some v) (hne : b ≠ rb) : w'.cell? ⟨b, i, none⟩ = some v := (World.cell?_of_block (t.block b (World.block_lt_of_cell? w _ h) hne)).trans h

set_option maxHeartbeats 4000000 in
theorem dfn (w0 w : World) (rb : Nat) (s : Option (List Int)) (hrb : w0.heap.size ≤ rb) (g0 : Below w0.heap.size w0 w) (h : DdS w0 w rb s) :
    Calls Tryd.prog 48 #[.pointer (some ⟨rb, 0, none⟩)] w fun e w' => ∃ (ko : Option Addr) (kc : Nat) (io : Option Addr) (ic : Nat) (mo : Option Addr) (mc : Nat) (a : Fn) (s' : Option (List Int)), e = .returned (.agg #[.int .i64 a.p, .int .i64 a.c, .int .i64 a.s, .int .i64 a.r, .slice ko a.ks.length kc, .slice io a.is.length ic, .slice mo a.ms.length mc]) ∧ (∀ w2, KeepFrom w.heap.size w' w2 → FnCells w2 a [.int .i64 a.p, .int .i64 a.c, .int .i64 a.s, .int .i64 a.r, .slice ko a.ks.length kc, .slice io a.is.length ic, .slice mo a.ms.length mc]) ∧ oFn a ∧ Res pFn s a s' ∧ DdS w0 w' rb s' ∧ Tr w w' rb := by
  have hlt := h.lt
  have hB := g0.size
  obtain ⟨W1, hW1⟩ : ∃ W1, W1 = w.alloc (.cells #[.int .i64 0, .int .i64 0, .int .i64 0, .int .i64 0, .slice none 0 0, .slice none 0 0, .slice none 0 0] 85) := ⟨_, rfl⟩
  have TW : Tr w W1 rb := by rw [hW1]; exact Tr.of_G rb (G.alloc _ _)
  have hsW : W1.heap.size = w.heap.size + 1 := by rw [hW1, World.size_alloc]
  have hrbW : rb < W1.heap.size := by omega
  have B0 : ∀ x, Tr W1 x rb → Below w0.heap.size w0 x := fun x t => Below.trans g0 ((TW.trans t).below hB hrb)
  have DW : Hid (DdS w0 W1 rb s) := hide (by rw [hW1]; exact h.g (G.alloc _ _))
  have hnr : w.heap.size ≠ rb := by omega
  have zc0 : Hid (W1.cell? ⟨w.heap.size, 0, none⟩ = some (.int .i64 0)) := hide (by rw [hW1]; simp [go_sem])
  have zf0 : Hid (W1.frozen? ⟨w.heap.size, 0, none⟩ = false) := hide (by rw [hW1]; simp [go_sem])
  have zc1 : Hid (W1.cell? ⟨w.heap.size, 1, none⟩ = some (.int .i64 0)) := hide (by rw [hW1]; simp [go_sem])
  have zf1 : Hid (W1.frozen? ⟨w.heap.size, 1, none⟩ = false) := hide (by rw [hW1]; simp [go_sem])
  have zc2 : Hid (W1.cell? ⟨w.heap.size, 2, none⟩ = some (.int .i64 0)) := hide (by rw [hW1]; simp [go_sem])
  have zf2 : Hid (W1.frozen? ⟨w.heap.size, 2, none⟩ = false) := hide (by rw [hW1]; simp [go_sem])
  have zc3 : Hid (W1.cell? ⟨w.heap.size, 3, none⟩ = some (.int .i64 0)) := hide (by rw [hW1]; simp [go_sem])
  have zf3 : Hid (W1.frozen? ⟨w.heap.size, 3, none⟩ = false) := hide (by rw [hW1]; simp [go_sem])
  have zc4 : Hid (W1.cell? ⟨w.heap.size, 4, none⟩ = some (.slice none 0 0)) := hide (by rw [hW1]; simp [go_sem])
  have zf4 : Hid (W1.frozen? ⟨w.heap.size, 4, none⟩ = false) := hide (by rw [hW1]; simp [go_sem])
  have zc5 : Hid (W1.cell? ⟨w.heap.size, 5, none⟩ = some (.slice none 0 0)) := hide (by rw [hW1]; simp [go_sem])
  have zf5 : Hid (W1.frozen? ⟨w.heap.size, 5, none⟩ = false) := hide (by rw [hW1]; simp [go_sem])
  have zc6 : Hid (W1.cell? ⟨w.heap.size, 6, none⟩ = some (.slice none 0 0)) := hide (by rw [hW1]; simp [go_sem])
  have zf6 : Hid (W1.frozen? ⟨w.heap.size, 6, none⟩ = false) := hide (by rw [hW1]; simp [go_sem])
  have I : Hid (∀ x s, Tr W1 x rb → DdS w0 x rb s → Calls Tryd.prog 44 #[.pointer (some ⟨rb, 0, none⟩)] x fun e w' => ∃ (v : Int) (s' : Option (List Int)), e = .returned (.int .i64 v) ∧ oI v ∧ Res pI s v s' ∧ DdS w0 w' rb s' ∧ Tr x w' rb) := hide (fun x s t h => di w0 x rb s (B0 x t) h)
  have U : Hid (∀ x s, Tr W1 x rb → DdS w0 x rb s → Calls Tryd.prog 45 #[.pointer (some ⟨rb, 0, none⟩)] x fun e w' => ∃ (u : Nat) (s' : Option (List Int)), e = .returned (.int .u64 (u : Int)) ∧ oU u ∧ Res pU s u s' ∧ DdS w0 w' rb s' ∧ Tr x w' rb) := hide (fun x s t h => du w0 x rb s (B0 x t) h)
  have NN : Hid (∀ x s, Tr W1 x rb → DdS w0 x rb s → Calls Tryd.prog 43 #[.pointer (some ⟨rb, 0, none⟩)] x fun e w' => ∃ (n : Nat) (s' : Option (List Int)), e = .returned (.int .i64 (n : Int)) ∧ n ≤ 10000000 ∧ Nn s n s' ∧ DdS w0 w' rb s' ∧ Tr x w' rb) := hide (fun x s t h => dn w0 x rb s (B0 x t) h)
  have BL : Hid (∀ x s, Tr W1 x rb → DdS w0 x rb s → Calls Tryd.prog 46 #[.pointer (some ⟨rb, 0, none⟩)] x fun e w' => ∃ (ao : Option Addr) (c : Nat) (l : List Bool) (s' : Option (List Int)), e = .returned (.slice ao l.length c) ∧ RowIn x.heap.size elB w' ao l.length c l ∧ Res (pL pB) s l s' ∧ DdS w0 w' rb s' ∧ Tr x w' rb) := hide (fun x s t h => dbools w0 x rb s hrb (B0 x t) h)
  replace B0 := hide B0
  replace TW := hide TW
  replace hsW := hide hsW
  clear h g0
  go_enter Tryd.func48, Tryd.ntmps48
  go_wp2_with fail
  rw [← hW1]
  clear hW1
  refine (unhide I _ _ (Tr.refl W1 rb) (unhide DW)).mono ?_
  rintro e xa1 ⟨va1, sa1, rfl, oa1, ra1, da1, ta1⟩
  replace oa1 := hide oa1
  replace ra1 := hide ra1
  replace da1 := hide da1
  replace ta1 := hide ta1
  obtain ⟨gb, hgb⟩ : ∃ g, g = xa1.heap.size := ⟨_, rfl⟩
  obtain ⟨ya1, hya1⟩ : ∃ y, y = xa1.alloc (.cells #[.int .i64 va1, .int .i64 0, .int .i64 0, .int .i64 0, .slice none 0 0, .slice none 0 0, .slice none 0 0] 85) := ⟨_, rfl⟩
  have Fa1 : Hid (BoxS W1 gb rb [.int .i64 va1, .int .i64 0, .int .i64 0, .int .i64 0, .slice none 0 0, .slice none 0 0, .slice none 0 0] ya1) := hide (by rw [hya1, hgb]; exact BoxS.new [.int .i64 va1, .int .i64 0, .int .i64 0, .int .i64 0, .slice none 0 0, .slice none 0 0, .slice none 0 0] 85 (Tr.trans (Tr.refl W1 rb) (unhide ta1)) (unhide da1).lt)
  have Da1 : Hid (DdS w0 ya1 rb sa1) := hide (by rw [hya1]; exact (unhide da1).g (G.alloc _ _))
  have Ea1 : Hid (Tr W1 ya1 rb) := hide (by rw [hya1]; exact (unhide ta1).trans (Tr.of_G rb (G.alloc _ _)))
  go_wp2_with fail
  rw [← hya1, ← hgb]
  clear hya1 hgb
  refine (unhide I _ _ ((unhide Fa1).tr) (unhide Da1)).mono ?_
  rintro e xa2 ⟨va2, sa2, rfl, oa2, ra2, da2, ta2⟩
  replace oa2 := hide oa2
  replace ra2 := hide ra2
  replace da2 := hide da2
  replace ta2 := hide ta2
  have hc := ((unhide Fa1).tr' (unhide ta2)).at 1 _ rfl
  have hf := ((unhide Fa1).tr' (unhide ta2)).fz 1 (by simp)
  obtain ⟨ya2, hya2⟩ : ∃ y, y = xa2.setCell ⟨gb, 1, none⟩ (.int .i64 va2) := ⟨_, rfl⟩
  have Fa2 : Hid (BoxS W1 gb rb [.int .i64 va1, .int .i64 va2, .int .i64 0, .int .i64 0, .slice none 0 0, .slice none 0 0, .slice none 0 0] ya2) := hide (by rw [hya2]; exact ((unhide Fa1).tr' (unhide ta2)).set 1 (.int .i64 va2) (by simp))
  have Da2 : Hid (DdS w0 ya2 rb sa2) := hide (by rw [hya2]; exact (unhide da2).set (unhide Fa1).ne)
  go_wp2_with fail
  rw [← hya2]
  clear hya2 hc hf
  refine (unhide I _ _ ((unhide Fa2).tr) (unhide Da2)).mono ?_
  rintro e xa3 ⟨va3, sa3, rfl, oa3, ra3, da3, ta3⟩
  replace oa3 := hide oa3
  replace ra3 := hide ra3
  replace da3 := hide da3
  replace ta3 := hide ta3
  have hc := ((unhide Fa2).tr' (unhide ta3)).at 2 _ rfl
  have hf := ((unhide Fa2).tr' (unhide ta3)).fz 2 (by simp)
  obtain ⟨ya3, hya3⟩ : ∃ y, y = xa3.setCell ⟨gb, 2, none⟩ (.int .i64 va3) := ⟨_, rfl⟩
  have Fa3 : Hid (BoxS W1 gb rb [.int .i64 va1, .int .i64 va2, .int .i64 va3, .int .i64 0, .slice none 0 0, .slice none 0 0, .slice none 0 0] ya3) := hide (by rw [hya3]; exact ((unhide Fa2).tr' (unhide ta3)).set 2 (.int .i64 va3) (by simp))
  have Da3 : Hid (DdS w0 ya3 rb sa3) := hide (by rw [hya3]; exact (unhide da3).set (unhide Fa2).ne)
  go_wp2_with fail
  rw [← hya3]
  clear hya3 hc hf
  refine (unhide I _ _ ((unhide Fa3).tr) (unhide Da3)).mono ?_
  rintro e xa4 ⟨va4, sa4, rfl, oa4, ra4, da4, ta4⟩
  replace oa4 := hide oa4
  replace ra4 := hide ra4
  replace da4 := hide da4
  replace ta4 := hide ta4
  have hc := ((unhide Fa3).tr' (unhide ta4)).at 3 _ rfl
  have hf := ((unhide Fa3).tr' (unhide ta4)).fz 3 (by simp)
  obtain ⟨ya4, hya4⟩ : ∃ y, y = xa4.setCell ⟨gb, 3, none⟩ (.int .i64 va4) := ⟨_, rfl⟩
  have Fa4 : Hid (BoxS W1 gb rb [.int .i64 va1, .int .i64 va2, .int .i64 va3, .int .i64 va4, .slice none 0 0, .slice none 0 0, .slice none 0 0] ya4) := hide (by rw [hya4]; exact ((unhide Fa3).tr' (unhide ta4)).set 3 (.int .i64 va4) (by simp))
  have Da4 : Hid (DdS w0 ya4 rb sa4) := hide (by rw [hya4]; exact (unhide da4).set (unhide Fa3).ne)
  go_wp2_with fail
  rw [← hya4]
  clear hya4 hc hf
  refine (unhide BL _ _ ((unhide Fa4).tr) (unhide Da4)).mono ?_
  rintro e xa5 ⟨va5o, va5c, va5, sa5, rfl, oa5, ra5, da5, ta5⟩
  replace oa5 := hide oa5
  replace ra5 := hide ra5
  replace da5 := hide da5
  replace ta5 := hide ta5
  have hc := ((unhide Fa4).tr' (unhide ta5)).at 4 _ rfl
  have hf := ((unhide Fa4).tr' (unhide ta5)).fz 4 (by simp)
  obtain ⟨ya5, hya5⟩ : ∃ y, y = xa5.setCell ⟨gb, 4, none⟩ (.slice va5o va5.length va5c) := ⟨_, rfl⟩
  have Fa5 : Hid (BoxS W1 gb rb [.int .i64 va1, .int .i64 va2, .int .i64 va3, .int .i64 va4, .slice va5o va5.length va5c, .slice none 0 0, .slice none 0 0] ya5) := hide (by rw [hya5]; exact ((unhide Fa4).tr' (unhide ta5)).set 4 (.slice va5o va5.length va5c) (by simp))
  have Da5 : Hid (DdS w0 ya5 rb sa5) := hide (by rw [hya5]; exact (unhide da5).set (unhide Fa4).ne)
  have Xa5 : Hid (RowX W1.heap.size gb elB ya5 va5o va5.length va5c va5) := hide (by rw [hya5]; exact ((unhide oa5).x (unhide Fa4).tr.size (unhide Fa4).lt).keep (kx_set _))
  go_wp2_with fail
  rw [← hya5]
  clear hya5 hc hf
  have hne : gb ≠ rb := (unhide Fa5).ne
  clear Da1 Da2 Da3 Da4 Fa1 Fa2 Fa3 Fa4 Ea1 da1 da2 da3 da4 da5 ta1 ta2 ta3 ta4 ta5 oa5
  refine (unhide NN _ _ ((unhide Fa5).tr) (unhide Da5)).mono ?_
  rintro e xn1 ⟨N1, sn1, rfl, on1, rn1, dn1, tn1⟩
  replace on1 := hide on1
  replace rn1 := hide rn1
  replace dn1 := hide dn1
  replace tn1 := hide tn1
  have Fn1 := hide ((unhide Fa5).tr' (unhide tn1))
  replace Xa5 := hide ((unhide Xa5).keep ((unhide tn1).kx hrbW))
  clear Da5 Fa5 tn1
  have hNbA : N1 ≤ 10000000 := unhide on1
  have ST : Hid (LrI elIn pIn oIn 97 w0 W1 xn1 gb rb 5 [.int .i64 va1, .int .i64 va2, .int .i64 va3, .int .i64 va4, .slice va5o va5.length va5c, .slice none 0 0, .slice none 0 0] sn1 0 [] sn1 (.slice none 0 0) xn1) := hide (LrI.start (unhide Fn1) rfl (unhide dn1))
  have EN : Hid (∀ k lk sk v wr, LrI elIn pIn oIn 97 w0 W1 xn1 gb rb 5 [.int .i64 va1, .int .i64 va2, .int .i64 va3, .int .i64 va4, .slice va5o va5.length va5c, .slice none 0 0, .slice none 0 0] sn1 k lk sk v wr → k ≤ N1 → (sk = none ∨ k = N1) → LrE elIn pIn oIn w0 W1 xn1 gb rb 5 [.int .i64 va1, .int .i64 va2, .int .i64 va3, .int .i64 va4, .slice va5o va5.length va5c, .slice none 0 0, .slice none 0 0] sa5 lk sk v wr) := hide (fun k lk sk v wr H hk hor => LrI.done cIn (by decide) (unhide rn1) H hrbW (unhide Fn1).lo (unhide Fn1).lt hk hor)
  have AP : Hid (∀ k lk sk v wr, LrI elIn pIn oIn 97 w0 W1 xn1 gb rb 5 [.int .i64 va1, .int .i64 va2, .int .i64 va3, .int .i64 va4, .slice va5o va5.length va5c, .slice none 0 0, .slice none 0 0] sn1 k lk sk v wr → k < N1 → ∀ x1 s2 (a : In), Tr wr x1 rb → DdS w0 x1 rb s2 → Res pIn sk a s2 → oIn a → ∃ gn cn x3, (Builtin.append_ #[83, 83] 83 #[v, .slice (some ⟨x1.heap.size, 0, none⟩) 1 1]).run Tryd.prog (x1.alloc (.cells #[.int .i64 a.op, .int .i64 a.a, .int .i64 a.b, .int .i64 a.c, .int .i64 a.d] 97)) = .ok (.slice (some ⟨gn, 0, none⟩) (k + 1) cn) x3 ∧ x3.cell? ⟨gb, 5, none⟩ = some v ∧ x3.frozen? ⟨gb, 5, none⟩ = false ∧ LrI elIn pIn oIn 97 w0 W1 xn1 gb rb 5 [.int .i64 va1, .int .i64 va2, .int .i64 va3, .int .i64 va4, .slice va5o va5.length va5c, .slice none 0 0, .slice none 0 0] sn1 (k + 1) (lk ++ [a]) s2 (.slice (some ⟨gn, 0, none⟩) (k + 1) cn) (x3.setCell ⟨gb, 5, none⟩ (.slice (some ⟨gn, 0, none⟩) (k + 1) cn))) := hide (fun k lk sk v wr H hk x1 s2 a t1 d2 hr oa => by
    obtain ⟨ii, hi, hz, hs, hb⟩ := info_parts info_rinstr
    have hn := unhide on1
    exact LrI.app (E := elIn) Tryd.underlying83 hi hz hs hb rfl (by decide) (by decide) H hrbW (unhide Fn1).lo (unhide Fn1).lt (by simp) t1 d2 [.int .i64 a.op, .int .i64 a.a, .int .i64 a.b, .int .i64 a.c, .int .i64 a.d] a hr oa rfl (fun _ _ => rfl) (by simp [Value.oneCell']) (by omega))
  have GW : Hid (∀ k lk sk v wr, LrI elIn pIn oIn 97 w0 W1 xn1 gb rb 5 [.int .i64 va1, .int .i64 va2, .int .i64 va3, .int .i64 va4, .slice va5o va5.length va5c, .slice none 0 0, .slice none 0 0] sn1 k lk sk v wr → Tr W1 wr rb ∧ wr.cell? ⟨gb, 5, none⟩ = some v ∧ DdS w0 wr rb sk ∧ wr.cell? ⟨rb, 1, none⟩ = some (.bool sk.isNone)) := hide (fun k lk sk v wr H => ⟨H.gr.1.tr, H.gr.1.at 5 _ (by rfl), H.dd, H.dd.bad⟩)
  go_wp2_with fail
  go_loopw [5] (fun i wr => ∃ (k : Nat) (lk : List In) (sk : Option (List Int)) (v : Value), k ≤ N1 ∧ i = .int .i64 k ∧ Hid (LrI elIn pIn oIn 97 w0 W1 xn1 gb rb 5 [.int .i64 va1, .int .i64 va2, .int .i64 va3, .int .i64 va4, .slice va5o va5.length va5c, .slice none 0 0, .slice none 0 0] sn1 k lk sk v wr)) (fun i _ => N1 - (intOf i).toNat)
  case atStart => exact ⟨0, [], sn1, _, Nat.zero_le _, rfl, ST⟩
  case round =>
    obtain ⟨k, lk, sk, v, hk, rfl, H⟩ := hrel
    clear ST
    obtain ⟨hTw, hv, hD, hbad⟩ := unhide GW k lk sk v wr (unhide H)
    replace hTw := hide hTw
    replace hD := hide hD
    obtain ⟨bb, hbb⟩ : ∃ q : Bool, q = sk.isNone := ⟨_, rfl⟩
    obtain ⟨q, hq⟩ : ∃ q : Bool, q = (decide (k < N1) && !bb) := ⟨_, rfl⟩
    rw [← hbb] at hbad
    go_upto_region 8 with fail
    go_cut [34] (fun p wx => p = .bool q ∧ wr = wx)
    case first =>
      replace hbb := hide hbb
      by_cases hlk : k < N1
      · have hki : (k : Int) < (N1 : Int) := by omega
        obtain rfl : q = !bb := by rw [hq]; simp [hlk]
        clear hq
        cases bb
        · go_wp2_with fail
          go_meet
          exact ⟨rfl, rfl⟩
        · go_wp2_with fail
          go_meet
          exact ⟨rfl, rfl⟩
      · have hki : ¬ (k : Int) < (N1 : Int) := by omega
        obtain rfl : q = false := by rw [hq]; simp [hlk]
        clear hq
        go_wp2_with fail
        go_meet
        exact ⟨rfl, rfl⟩
    case rest =>
      obtain ⟨rfl, rfl⟩ := hcut
      cases q
      rotate_left
      · have hlk : k < N1 := by
          have h := hq.symm
          simp at h
          exact h.1
        have hki : (k : Int) < (N1 : Int) := by omega
        have APk := hide (unhide AP k lk sk v wr (unhide H) hlk)
        clear EN AP GW H hq hbb hbad
        go_wp2_with fail
        refine (unhide I _ _ (unhide hTw) (unhide hD)).mono ?_
        rintro e xb1 ⟨vb1, sb1, rfl, ob1, rb1, db1, tb1⟩
        replace ob1 := hide ob1
        replace rb1 := hide rb1
        replace db1 := hide db1
        replace tb1 := hide tb1
        obtain ⟨xb, hxb⟩ : ∃ g, g = xb1.heap.size := ⟨_, rfl⟩
        obtain ⟨yb1, hyb1⟩ : ∃ y, y = xb1.alloc (.cells #[.int .i64 vb1, .int .i64 0, .int .i64 0, .int .i64 0, .int .i64 0] 97) := ⟨_, rfl⟩
        have Fb1 : Hid (BoxS wr xb rb [.int .i64 vb1, .int .i64 0, .int .i64 0, .int .i64 0, .int .i64 0] yb1) := hide (by rw [hyb1, hxb]; exact BoxS.new [.int .i64 vb1, .int .i64 0, .int .i64 0, .int .i64 0, .int .i64 0] 97 (Tr.trans (Tr.refl wr rb) (unhide tb1)) (unhide db1).lt)
        have Db1 : Hid (DdS w0 yb1 rb sb1) := hide (by rw [hyb1]; exact (unhide db1).g (G.alloc _ _))
        have Eb1 : Hid (Tr wr yb1 rb) := hide (by rw [hyb1]; exact (unhide tb1).trans (Tr.of_G rb (G.alloc _ _)))
        go_wp2_with fail
        rw [← hyb1, ← hxb]
        clear hyb1 hxb
        refine (unhide I _ _ ((unhide hTw).trans (unhide Fb1).tr) (unhide Db1)).mono ?_
        rintro e xb2 ⟨vb2, sb2, rfl, ob2, rb2, db2, tb2⟩
        replace ob2 := hide ob2
        replace rb2 := hide rb2
        replace db2 := hide db2
        replace tb2 := hide tb2
        have hc := ((unhide Fb1).tr' (unhide tb2)).at 1 _ rfl
        have hf := ((unhide Fb1).tr' (unhide tb2)).fz 1 (by simp)
        obtain ⟨yb2, hyb2⟩ : ∃ y, y = xb2.setCell ⟨xb, 1, none⟩ (.int .i64 vb2) := ⟨_, rfl⟩
        have Fb2 : Hid (BoxS wr xb rb [.int .i64 vb1, .int .i64 vb2, .int .i64 0, .int .i64 0, .int .i64 0] yb2) := hide (by rw [hyb2]; exact ((unhide Fb1).tr' (unhide tb2)).set 1 (.int .i64 vb2) (by simp))
        have Db2 : Hid (DdS w0 yb2 rb sb2) := hide (by rw [hyb2]; exact (unhide db2).set (unhide Fb1).ne)
        go_wp2_with fail
        rw [← hyb2]
        clear hyb2 hc hf
        refine (unhide I _ _ ((unhide hTw).trans (unhide Fb2).tr) (unhide Db2)).mono ?_
        rintro e xb3 ⟨vb3, sb3, rfl, ob3, rb3, db3, tb3⟩
        replace ob3 := hide ob3
        replace rb3 := hide rb3
        replace db3 := hide db3
        replace tb3 := hide tb3
        have hc := ((unhide Fb2).tr' (unhide tb3)).at 2 _ rfl
        have hf := ((unhide Fb2).tr' (unhide tb3)).fz 2 (by simp)
        obtain ⟨yb3, hyb3⟩ : ∃ y, y = xb3.setCell ⟨xb, 2, none⟩ (.int .i64 vb3) := ⟨_, rfl⟩
        have Fb3 : Hid (BoxS wr xb rb [.int .i64 vb1, .int .i64 vb2, .int .i64 vb3, .int .i64 0, .int .i64 0] yb3) := hide (by rw [hyb3]; exact ((unhide Fb2).tr' (unhide tb3)).set 2 (.int .i64 vb3) (by simp))
        have Db3 : Hid (DdS w0 yb3 rb sb3) := hide (by rw [hyb3]; exact (unhide db3).set (unhide Fb2).ne)
        go_wp2_with fail
        rw [← hyb3]
        clear hyb3 hc hf
        refine (unhide I _ _ ((unhide hTw).trans (unhide Fb3).tr) (unhide Db3)).mono ?_
        rintro e xb4 ⟨vb4, sb4, rfl, ob4, rb4, db4, tb4⟩
        replace ob4 := hide ob4
        replace rb4 := hide rb4
        replace db4 := hide db4
        replace tb4 := hide tb4
        have hc := ((unhide Fb3).tr' (unhide tb4)).at 3 _ rfl
        have hf := ((unhide Fb3).tr' (unhide tb4)).fz 3 (by simp)
        obtain ⟨yb4, hyb4⟩ : ∃ y, y = xb4.setCell ⟨xb, 3, none⟩ (.int .i64 vb4) := ⟨_, rfl⟩
        have Fb4 : Hid (BoxS wr xb rb [.int .i64 vb1, .int .i64 vb2, .int .i64 vb3, .int .i64 vb4, .int .i64 0] yb4) := hide (by rw [hyb4]; exact ((unhide Fb3).tr' (unhide tb4)).set 3 (.int .i64 vb4) (by simp))
        have Db4 : Hid (DdS w0 yb4 rb sb4) := hide (by rw [hyb4]; exact (unhide db4).set (unhide Fb3).ne)
        go_wp2_with fail
        rw [← hyb4]
        clear hyb4 hc hf
        refine (unhide I _ _ ((unhide hTw).trans (unhide Fb4).tr) (unhide Db4)).mono ?_
        rintro e xb5 ⟨vb5, sb5, rfl, ob5, rb5, db5, tb5⟩
        replace ob5 := hide ob5
        replace rb5 := hide rb5
        replace db5 := hide db5
        replace tb5 := hide tb5
        have hc := ((unhide Fb4).tr' (unhide tb5)).at 4 _ rfl
        have hf := ((unhide Fb4).tr' (unhide tb5)).fz 4 (by simp)
        obtain ⟨yb5, hyb5⟩ : ∃ y, y = xb5.setCell ⟨xb, 4, none⟩ (.int .i64 vb5) := ⟨_, rfl⟩
        have Fb5 : Hid (BoxS wr xb rb [.int .i64 vb1, .int .i64 vb2, .int .i64 vb3, .int .i64 vb4, .int .i64 vb5] yb5) := hide (by rw [hyb5]; exact ((unhide Fb4).tr' (unhide tb5)).set 4 (.int .i64 vb5) (by simp))
        have Db5 : Hid (DdS w0 yb5 rb sb5) := hide (by rw [hyb5]; exact (unhide db5).set (unhide Fb4).ne)
        go_upto_region 15 with fail
        rw [← hyb5]
        clear hyb5 hc hf
        have hv1 := (unhide Fb5).keep gb 5 v hv hne
        have hx0 := (unhide Fb5).at 0 _ rfl
        have hx1 := (unhide Fb5).at 1 _ rfl
        have hx2 := (unhide Fb5).at 2 _ rfl
        have hx3 := (unhide Fb5).at 3 _ rfl
        have hx4 := (unhide Fb5).at 4 _ rfl
        have APq := hide (unhide APk yb5 sb5 ⟨vb1, vb2, vb3, vb4, vb5⟩ (unhide Fb5).tr (unhide Db5) (Res.map (fun x : Int × Int × Int × Int × Int => (⟨x.1, x.2.1, x.2.2.1, x.2.2.2.1, x.2.2.2.2⟩ : In)) ((unhide rb1).seq ((unhide rb2).seq ((unhide rb3).seq ((unhide rb4).seq (unhide rb5)))))) ⟨unhide ob1, unhide ob2, unhide ob3, unhide ob4, unhide ob5⟩)
        clear APk hv hTw hD rb1 ob1 db1 tb1 Fb1 Db1 rb2 ob2 db2 tb2 Fb2 Db2 rb3 ob3 db3 tb3 Fb3 Db3 rb4 ob4 db4 tb4 Fb4 Db4 rb5 ob5 db5 tb5 Fb5 Db5 Eb1
        go_wp2_with (at_builtin; obtain ⟨gn, cn, x3, hrun, hcv, hfv, HG⟩ := unhide APq; replace HG := hide HG; refine wpl_run rfl (.tmp 53) (.tmp 55) 83 rfl _ _ rfl rfl _ _ hrun ?_; clear hrun APq)
        go_roundw
        case rel => exact ⟨k + 1, _, _, _, by omega, by go_num, HG⟩
        case measure => simp [intOf]; omega
      · have hor : sk = none ∨ k = N1 := by
          cases sk with
          | none => exact Or.inl rfl
          | some r =>
            have h := hq.symm
            rw [hbb] at h
            simp at h
            exact Or.inr (by omega)
        obtain ⟨qoA, qcA, rfl, XA, FX, KX, RRA, DX, OKA⟩ := unhide EN k lk sk v wr (unhide H) hk hor
        replace Xa5 := hide ((unhide Xa5).keep KX)
        replace XA := hide XA
        replace RRA := hide RRA
        replace OKA := hide OKA
        have FA := hide FX
        have DA := hide DX
        clear FX DX KX EN AP GW H hv hTw hD hk hor hq hbb hbad
        obtain ⟨lA, hlA⟩ : ∃ l, l = lk := ⟨_, rfl⟩
        subst hlA
        obtain ⟨stA, hstA⟩ : ∃ l, l = sk := ⟨_, rfl⟩
        subst hstA
        obtain ⟨wdA, hwdA⟩ : ∃ y, y = wr := ⟨_, rfl⟩
        subst hwdA
        clear bb
        go_wp2_with fail
        refine (unhide NN _ _ ((unhide FA).tr) (unhide DA)).mono ?_
        rintro e xn2 ⟨N2, sn2, rfl, on2, rn2, dn2, tn2⟩
        replace on2 := hide on2
        replace rn2 := hide rn2
        replace dn2 := hide dn2
        replace tn2 := hide tn2
        have Fn2 := hide ((unhide FA).tr' (unhide tn2))
        replace Xa5 := hide ((unhide Xa5).keep ((unhide tn2).kx hrbW))
        replace XA := hide ((unhide XA).keep ((unhide tn2).kx hrbW))
        clear DA FA tn2
        have hNbB : N2 ≤ 10000000 := unhide on2
        have ST : Hid (LrI elU pU oU 62 w0 W1 xn2 gb rb 6 [.int .i64 va1, .int .i64 va2, .int .i64 va3, .int .i64 va4, .slice va5o va5.length va5c, .slice qoA lA.length qcA, .slice none 0 0] sn2 0 [] sn2 (.slice none 0 0) xn2) := hide (LrI.start (unhide Fn2) rfl (unhide dn2))
        have EN : Hid (∀ k lk sk v wr, LrI elU pU oU 62 w0 W1 xn2 gb rb 6 [.int .i64 va1, .int .i64 va2, .int .i64 va3, .int .i64 va4, .slice va5o va5.length va5c, .slice qoA lA.length qcA, .slice none 0 0] sn2 k lk sk v wr → k ≤ N2 → (sk = none ∨ k = N2) → LrE elU pU oU w0 W1 xn2 gb rb 6 [.int .i64 va1, .int .i64 va2, .int .i64 va3, .int .i64 va4, .slice va5o va5.length va5c, .slice qoA lA.length qcA, .slice none 0 0] stA lk sk v wr) := hide (fun k lk sk v wr H hk hor => LrI.done cU (by decide) (unhide rn2) H hrbW (unhide Fn2).lo (unhide Fn2).lt hk hor)
        have AP : Hid (∀ k lk sk v wr, LrI elU pU oU 62 w0 W1 xn2 gb rb 6 [.int .i64 va1, .int .i64 va2, .int .i64 va3, .int .i64 va4, .slice va5o va5.length va5c, .slice qoA lA.length qcA, .slice none 0 0] sn2 k lk sk v wr → k < N2 → ∀ x1 s2 (a : Nat), Tr wr x1 rb → DdS w0 x1 rb s2 → Res pU sk a s2 → oU a → ∃ gn cn x3, (Builtin.append_ #[55, 55] 55 #[v, .slice (some ⟨x1.heap.size, 0, none⟩) 1 1]).run Tryd.prog (x1.alloc (.cells #[.int .u64 (a : Int)] 62)) = .ok (.slice (some ⟨gn, 0, none⟩) (k + 1) cn) x3 ∧ x3.cell? ⟨gb, 6, none⟩ = some v ∧ x3.frozen? ⟨gb, 6, none⟩ = false ∧ LrI elU pU oU 62 w0 W1 xn2 gb rb 6 [.int .i64 va1, .int .i64 va2, .int .i64 va3, .int .i64 va4, .slice va5o va5.length va5c, .slice qoA lA.length qcA, .slice none 0 0] sn2 (k + 1) (lk ++ [a]) s2 (.slice (some ⟨gn, 0, none⟩) (k + 1) cn) (x3.setCell ⟨gb, 6, none⟩ (.slice (some ⟨gn, 0, none⟩) (k + 1) cn))) := hide (fun k lk sk v wr H hk x1 s2 a t1 d2 hr oa => by
          obtain ⟨ii, hi, hz, hs, hb⟩ := info_parts info_uint64
          have hn := unhide on2
          exact LrI.app (E := elU) Tryd.underlying55 hi hz hs hb rfl (by decide) (by decide) H hrbW (unhide Fn2).lo (unhide Fn2).lt (by simp) t1 d2 [.int .u64 (a : Int)] a hr oa rfl (fun _ _ => rfl) (by simp [Value.oneCell']) (by omega))
        have GW : Hid (∀ k lk sk v wr, LrI elU pU oU 62 w0 W1 xn2 gb rb 6 [.int .i64 va1, .int .i64 va2, .int .i64 va3, .int .i64 va4, .slice va5o va5.length va5c, .slice qoA lA.length qcA, .slice none 0 0] sn2 k lk sk v wr → Tr W1 wr rb ∧ wr.cell? ⟨gb, 6, none⟩ = some v ∧ DdS w0 wr rb sk ∧ wr.cell? ⟨rb, 1, none⟩ = some (.bool sk.isNone)) := hide (fun k lk sk v wr H => ⟨H.gr.1.tr, H.gr.1.at 6 _ (by rfl), H.dd, H.dd.bad⟩)
        go_wp2_with fail
        go_loopw [7] (fun i wr => ∃ (k : Nat) (lk : List Nat) (sk : Option (List Int)) (v : Value), k ≤ N2 ∧ i = .int .i64 k ∧ Hid (LrI elU pU oU 62 w0 W1 xn2 gb rb 6 [.int .i64 va1, .int .i64 va2, .int .i64 va3, .int .i64 va4, .slice va5o va5.length va5c, .slice qoA lA.length qcA, .slice none 0 0] sn2 k lk sk v wr)) (fun i _ => N2 - (intOf i).toNat)
        case atStart => exact ⟨0, [], sn2, _, Nat.zero_le _, rfl, ST⟩
        case round =>
          obtain ⟨k, lk, sk, v, hk, rfl, H⟩ := hrel
          clear ST
          obtain ⟨hTw, hv, hD, hbad⟩ := unhide GW k lk sk v wr (unhide H)
          replace hTw := hide hTw
          replace hD := hide hD
          obtain ⟨bb, hbb⟩ : ∃ q : Bool, q = sk.isNone := ⟨_, rfl⟩
          obtain ⟨q, hq⟩ : ∃ q : Bool, q = (decide (k < N2) && !bb) := ⟨_, rfl⟩
          rw [← hbb] at hbad
          go_upto_region 18 with fail
          go_cut [69] (fun p wx => p = .bool q ∧ wr = wx)
          case first =>
            replace hbb := hide hbb
            by_cases hlk : k < N2
            · have hki : (k : Int) < (N2 : Int) := by omega
              obtain rfl : q = !bb := by rw [hq]; simp [hlk]
              clear hq
              cases bb
              · go_wp2_with fail
                go_meet
                exact ⟨rfl, rfl⟩
              · go_wp2_with fail
                go_meet
                exact ⟨rfl, rfl⟩
            · have hki : ¬ (k : Int) < (N2 : Int) := by omega
              obtain rfl : q = false := by rw [hq]; simp [hlk]
              clear hq
              go_wp2_with fail
              go_meet
              exact ⟨rfl, rfl⟩
          case rest =>
            obtain ⟨rfl, rfl⟩ := hcut
            cases q
            rotate_left
            · have hlk : k < N2 := by
                have h := hq.symm
                simp at h
                exact h.1
              have hki : (k : Int) < (N2 : Int) := by omega
              have APk := hide (unhide AP k lk sk v wr (unhide H) hlk)
              clear EN AP GW H hq hbb hbad
              go_wp2_with fail
              refine wp_region_noPanic ?_
              refine wp_region_held_drew (S := fun _ => True) (by kernel_rfl) trivial (fun hHeld => ?_)
              obtain ⟨y0, hy0⟩ : ∃ y, y = wr.drew := ⟨_, rfl⟩
              have q0 : Hid (Tr wr y0 rb) := hide (by rw [hy0]; exact Tr.of_G rb (G.refl wr).drew)
              have D0 : Hid (DdS w0 y0 rb sk) := hide (by rw [hy0]; exact (unhide hD).g (G.refl wr).drew)
              rw [← hy0] at ⊢
              clear hy0 hHeld
              refine wpAnyH_take (i := 0) (v := .pointer (some ⟨gb, 6, none⟩)) rfl (by kernel_rfl) (by kernel_rfl) (by kernel_rfl) (fun _ _ _ h => h) (Or.inl ⟨by rfl, fun w _ => by go_simp⟩) trivial ?_
              try simp only [Act.put, List.getElem_toArray, List.getElem_cons_zero, List.setIfInBounds_toArray, List.set_cons_zero, List.set_cons_succ]
              refine wpAnyH_take (i := 2) (v := .pointer (some ⟨rb, 0, none⟩)) rfl (by kernel_rfl) (by kernel_rfl) (by kernel_rfl) (fun _ _ _ h => h) (Or.inl ⟨by rfl, fun w _ => by go_simp⟩) trivial ?_
              try simp only [Act.put, List.getElem_toArray, List.getElem_cons_succ, List.getElem_cons_zero, List.setIfInBounds_toArray, List.set_cons_zero, List.set_cons_succ]
              refine wpAnyH_ready (rs := [1, 3]) (by kernel_rfl) (by simp) ?_
              refine AllReadyH.cons rfl (fun K hK => ?_) (AllReadyH.cons rfl (fun K hK => ?_) AllReadyH.nil)
              · have hl := tr_cell (unhide q0) hv hne
                go_simp
                refine hK.out _ _ trivial (fun _ => ?_)
                clear hK K
                try simp only [Act.put, List.getElem_toArray, List.getElem_cons_succ, List.getElem_cons_zero, List.setIfInBounds_toArray, List.set_cons_zero, List.set_cons_succ]
                clear hl
                refine wpAnyH_ready (rs := [3]) (by kernel_rfl) (by simp) ?_
                refine AllReadyH.cons rfl (fun K hK => ?_) AllReadyH.nil
                go_simp
                refine (unhide U _ _ ((unhide hTw).trans (unhide q0)) (unhide D0)).mono ?_
                rintro e x ⟨u, s2, rfl, ho, hr, hd, ht⟩
                have q1 : Hid (Tr y0 x rb) := hide ht
                replace ho := hide ho
                replace hr := hide hr
                replace hd := hide hd
                clear ht
                go_wp2_with fail
                refine hK.out _ _ trivial (fun _ => ?_)
                clear hK K
                try simp only [Act.put, List.getElem_toArray, List.getElem_cons_succ, List.getElem_cons_zero, List.setIfInBounds_toArray, List.set_cons_zero, List.set_cons_succ]
                refine wpAnyH_ready (rs := [4]) (by kernel_rfl) (by simp) ?_
                refine AllReadyH.cons rfl (fun K hK => ?_) AllReadyH.nil
                go_simp
                refine hK.out _ _ trivial (fun _ => ?_)
                clear hK K
                try simp only [Act.put, List.getElem_toArray, List.getElem_cons_succ, List.getElem_cons_zero, List.setIfInBounds_toArray, List.set_cons_zero, List.set_cons_succ]
                refine wpAnyH_ready (rs := [5]) (by kernel_rfl) (by simp) ?_
                refine AllReadyH.cons rfl (fun K hK => ?_) AllReadyH.nil
                obtain ⟨gn, cn, x3, hrun, hcv, hfv, HG⟩ := unhide APk x s2 u ((unhide q0).trans (unhide q1)) (unhide hd) (unhide hr) (unhide ho)
                replace HG := hide HG
                refine step_app rfl (.tmp 73) (.tmp 76) 55 rfl _ _ rfl rfl _ _ hrun ?_
                refine hK.out _ _ trivial (fun _ => ?_)
                clear hK K
                try simp only [Act.put, List.getElem_toArray, List.getElem_cons_succ, List.getElem_cons_zero, List.setIfInBounds_toArray, List.set_cons_zero, List.set_cons_succ]
                clear hrun
                refine wpAnyH_take (i := 6) (v := .pointer (some ⟨gb, 6, none⟩)) rfl (by kernel_rfl) (by kernel_rfl) (by kernel_rfl) (fun _ _ _ h => h) (Or.inl ⟨by rfl, fun w _ => by go_simp⟩) trivial ?_
                try simp only [Act.put, List.getElem_toArray, List.getElem_cons_succ, List.getElem_cons_zero, List.setIfInBounds_toArray, List.set_cons_zero, List.set_cons_succ]
                refine wpAnyH_ready (rs := [7]) (by kernel_rfl) (by simp) ?_
                refine AllReadyH.cons rfl (fun K hK => ?_) AllReadyH.nil
                go_simp
                refine hK.out _ _ trivial (fun _ => ?_)
                clear hK K
                try simp only [Act.put, List.getElem_toArray, List.getElem_cons_succ, List.getElem_cons_zero, List.setIfInBounds_toArray, List.set_cons_zero, List.set_cons_succ]
                refine wpAnyH_done (by kernel_rfl) (NoPanic.normal ?_) _
                clear hcv hfv
                go_wp2_with fail
                go_roundw
                case rel => exact ⟨k + 1, _, _, _, by omega, by go_num, HG⟩
                case measure => simp [intOf]; omega
              · go_simp
                refine (unhide U _ _ ((unhide hTw).trans (unhide q0)) (unhide D0)).mono ?_
                rintro e x ⟨u, s2, rfl, ho, hr, hd, ht⟩
                have q1 : Hid (Tr y0 x rb) := hide ht
                replace ho := hide ho
                replace hr := hide hr
                replace hd := hide hd
                clear ht
                go_wp2_with fail
                refine hK.out _ _ trivial (fun _ => ?_)
                clear hK K
                try simp only [Act.put, List.getElem_toArray, List.getElem_cons_succ, List.getElem_cons_zero, List.setIfInBounds_toArray, List.set_cons_zero, List.set_cons_succ]
                refine wpAnyH_ready (rs := [1, 4]) (by kernel_rfl) (by simp) ?_
                refine AllReadyH.cons rfl (fun K hK => ?_) (AllReadyH.cons rfl (fun K hK => ?_) AllReadyH.nil)
                · have hl := tr_cell ((unhide q0).trans (unhide q1)) hv hne
                  go_simp
                  refine hK.out _ _ trivial (fun _ => ?_)
                  clear hK K
                  try simp only [Act.put, List.getElem_toArray, List.getElem_cons_succ, List.getElem_cons_zero, List.setIfInBounds_toArray, List.set_cons_zero, List.set_cons_succ]
                  clear hl
                  refine wpAnyH_ready (rs := [4]) (by kernel_rfl) (by simp) ?_
                  refine AllReadyH.cons rfl (fun K hK => ?_) AllReadyH.nil
                  go_simp
                  refine hK.out _ _ trivial (fun _ => ?_)
                  clear hK K
                  try simp only [Act.put, List.getElem_toArray, List.getElem_cons_succ, List.getElem_cons_zero, List.setIfInBounds_toArray, List.set_cons_zero, List.set_cons_succ]
                  refine wpAnyH_ready (rs := [5]) (by kernel_rfl) (by simp) ?_
                  refine AllReadyH.cons rfl (fun K hK => ?_) AllReadyH.nil
                  obtain ⟨gn, cn, x3, hrun, hcv, hfv, HG⟩ := unhide APk x s2 u ((unhide q0).trans (unhide q1)) (unhide hd) (unhide hr) (unhide ho)
                  replace HG := hide HG
                  refine step_app rfl (.tmp 73) (.tmp 76) 55 rfl _ _ rfl rfl _ _ hrun ?_
                  refine hK.out _ _ trivial (fun _ => ?_)
                  clear hK K
                  try simp only [Act.put, List.getElem_toArray, List.getElem_cons_succ, List.getElem_cons_zero, List.setIfInBounds_toArray, List.set_cons_zero, List.set_cons_succ]
                  clear hrun
                  refine wpAnyH_take (i := 6) (v := .pointer (some ⟨gb, 6, none⟩)) rfl (by kernel_rfl) (by kernel_rfl) (by kernel_rfl) (fun _ _ _ h => h) (Or.inl ⟨by rfl, fun w _ => by go_simp⟩) trivial ?_
                  try simp only [Act.put, List.getElem_toArray, List.getElem_cons_succ, List.getElem_cons_zero, List.setIfInBounds_toArray, List.set_cons_zero, List.set_cons_succ]
                  refine wpAnyH_ready (rs := [7]) (by kernel_rfl) (by simp) ?_
                  refine AllReadyH.cons rfl (fun K hK => ?_) AllReadyH.nil
                  go_simp
                  refine hK.out _ _ trivial (fun _ => ?_)
                  clear hK K
                  try simp only [Act.put, List.getElem_toArray, List.getElem_cons_succ, List.getElem_cons_zero, List.setIfInBounds_toArray, List.set_cons_zero, List.set_cons_succ]
                  refine wpAnyH_done (by kernel_rfl) (NoPanic.normal ?_) _
                  clear hcv hfv
                  go_wp2_with fail
                  go_roundw
                  case rel => exact ⟨k + 1, _, _, _, by omega, by go_num, HG⟩
                  case measure => simp [intOf]; omega
                · go_simp
                  refine hK.out _ _ trivial (fun _ => ?_)
                  clear hK K
                  try simp only [Act.put, List.getElem_toArray, List.getElem_cons_succ, List.getElem_cons_zero, List.setIfInBounds_toArray, List.set_cons_zero, List.set_cons_succ]
                  refine wpAnyH_ready (rs := [1]) (by kernel_rfl) (by simp) ?_
                  refine AllReadyH.cons rfl (fun K hK => ?_) AllReadyH.nil
                  have hl := tr_cell (((unhide q0).trans (unhide q1)).trans (Tr.of_G rb (G.alloc x (.cells #[.int .u64 (u : Int)] 62)))) hv hne
                  go_simp
                  refine hK.out _ _ trivial (fun _ => ?_)
                  clear hK K
                  try simp only [Act.put, List.getElem_toArray, List.getElem_cons_succ, List.getElem_cons_zero, List.setIfInBounds_toArray, List.set_cons_zero, List.set_cons_succ]
                  clear hl
                  refine wpAnyH_ready (rs := [5]) (by kernel_rfl) (by simp) ?_
                  refine AllReadyH.cons rfl (fun K hK => ?_) AllReadyH.nil
                  obtain ⟨gn, cn, x3, hrun, hcv, hfv, HG⟩ := unhide APk x s2 u ((unhide q0).trans (unhide q1)) (unhide hd) (unhide hr) (unhide ho)
                  replace HG := hide HG
                  refine step_app rfl (.tmp 73) (.tmp 76) 55 rfl _ _ rfl rfl _ _ hrun ?_
                  refine hK.out _ _ trivial (fun _ => ?_)
                  clear hK K
                  try simp only [Act.put, List.getElem_toArray, List.getElem_cons_succ, List.getElem_cons_zero, List.setIfInBounds_toArray, List.set_cons_zero, List.set_cons_succ]
                  clear hrun
                  refine wpAnyH_take (i := 6) (v := .pointer (some ⟨gb, 6, none⟩)) rfl (by kernel_rfl) (by kernel_rfl) (by kernel_rfl) (fun _ _ _ h => h) (Or.inl ⟨by rfl, fun w _ => by go_simp⟩) trivial ?_
                  try simp only [Act.put, List.getElem_toArray, List.getElem_cons_succ, List.getElem_cons_zero, List.setIfInBounds_toArray, List.set_cons_zero, List.set_cons_succ]
                  refine wpAnyH_ready (rs := [7]) (by kernel_rfl) (by simp) ?_
                  refine AllReadyH.cons rfl (fun K hK => ?_) AllReadyH.nil
                  go_simp
                  refine hK.out _ _ trivial (fun _ => ?_)
                  clear hK K
                  try simp only [Act.put, List.getElem_toArray, List.getElem_cons_succ, List.getElem_cons_zero, List.setIfInBounds_toArray, List.set_cons_zero, List.set_cons_succ]
                  refine wpAnyH_done (by kernel_rfl) (NoPanic.normal ?_) _
                  clear hcv hfv
                  go_wp2_with fail
                  go_roundw
                  case rel => exact ⟨k + 1, _, _, _, by omega, by go_num, HG⟩
                  case measure => simp [intOf]; omega
            · have hor : sk = none ∨ k = N2 := by
                cases sk with
                | none => exact Or.inl rfl
                | some r =>
                  have h := hq.symm
                  rw [hbb] at h
                  simp at h
                  exact Or.inr (by omega)
              obtain ⟨qoB, qcB, rfl, XB, FX, KX, RRB, DX, OKB⟩ := unhide EN k lk sk v wr (unhide H) hk hor
              replace Xa5 := hide ((unhide Xa5).keep KX)
              replace XA := hide ((unhide XA).keep KX)
              replace XB := hide XB
              replace RRB := hide RRB
              replace OKB := hide OKB
              have FB := hide FX
              have DB := hide DX
              clear FX DX KX EN AP GW H hv hTw hD hk hor hq hbb hbad
              obtain ⟨lB, hlB⟩ : ∃ l, l = lk := ⟨_, rfl⟩
              subst hlB
              obtain ⟨stB, hstB⟩ : ∃ l, l = sk := ⟨_, rfl⟩
              subst hstB
              obtain ⟨wdB, hwdB⟩ : ∃ y, y = wr := ⟨_, rfl⟩
              subst hwdB
              clear bb
              have e0 := (unhide FB).at 0 _ rfl
              have z0 := (unhide FB).keep _ 0 _ (unhide zc0) hnr
              have f0 := (unhide FB).keepf _ 0 (by have := unhide hsW; omega) (unhide zf0) hnr
              have e1 := (unhide FB).at 1 _ rfl
              have z1 := (unhide FB).keep _ 1 _ (unhide zc1) hnr
              have f1 := (unhide FB).keepf _ 1 (by have := unhide hsW; omega) (unhide zf1) hnr
              have e2 := (unhide FB).at 2 _ rfl
              have z2 := (unhide FB).keep _ 2 _ (unhide zc2) hnr
              have f2 := (unhide FB).keepf _ 2 (by have := unhide hsW; omega) (unhide zf2) hnr
              have e3 := (unhide FB).at 3 _ rfl
              have z3 := (unhide FB).keep _ 3 _ (unhide zc3) hnr
              have f3 := (unhide FB).keepf _ 3 (by have := unhide hsW; omega) (unhide zf3) hnr
              have e4 := (unhide FB).at 4 _ rfl
              have z4 := (unhide FB).keep _ 4 _ (unhide zc4) hnr
              have f4 := (unhide FB).keepf _ 4 (by have := unhide hsW; omega) (unhide zf4) hnr
              have e5 := (unhide FB).at 5 _ rfl
              have z5 := (unhide FB).keep _ 5 _ (unhide zc5) hnr
              have f5 := (unhide FB).keepf _ 5 (by have := unhide hsW; omega) (unhide zf5) hnr
              have e6 := (unhide FB).at 6 _ rfl
              have z6 := (unhide FB).keep _ 6 _ (unhide zc6) hnr
              have f6 := (unhide FB).keepf _ 6 (by have := unhide hsW; omega) (unhide zf6) hnr
              have hs := unhide hsW
              have QC : CellsAt (setN wdB w.heap.size 0 [.int .i64 va1, .int .i64 va2, .int .i64 va3, .int .i64 va4, .slice va5o va5.length va5c, .slice qoA lA.length qcA, .slice qoB lB.length qcB]) w.heap.size 0 [.int .i64 va1, .int .i64 va2, .int .i64 va3, .int .i64 va4, .slice va5o va5.length va5c, .slice qoA lA.length qcA, .slice qoB lB.length qcB] := fun j u hj => setN_in _ _ _ _ j u hj (fun i hi => by
                rw [Nat.zero_add]
                match i, hi with
                | 0, _ => rw [z0]; rfl
                | 1, _ => rw [z1]; rfl
                | 2, _ => rw [z2]; rfl
                | 3, _ => rw [z3]; rfl
                | 4, _ => rw [z4]; rfl
                | 5, _ => rw [z5]; rfl
                | 6, _ => rw [z6]; rfl)
              have KW : ∀ w2, KeepFrom w.heap.size (setN wdB w.heap.size 0 [.int .i64 va1, .int .i64 va2, .int .i64 va3, .int .i64 va4, .slice va5o va5.length va5c, .slice qoA lA.length qcA, .slice qoB lB.length qcB]) w2 → Kx W1.heap.size gb none wdB w2 := fun w2 kw => ⟨fun b h1 h2 h3 _ => (kw.1 b (by omega) (by rw [setN_size]; exact h2)).trans (setN_heap _ _ _ _ _ (by omega)), by have := kw.2; rw [setN_size] at this; exact this⟩
              have FI : (∀ w2, KeepFrom w.heap.size (setN wdB w.heap.size 0 [.int .i64 va1, .int .i64 va2, .int .i64 va3, .int .i64 va4, .slice va5o va5.length va5c, .slice qoA lA.length qcA, .slice qoB lB.length qcB]) w2 → FnCells w2 (⟨va1, va2, va3, va4, va5, lA, lB⟩ : Fn) [.int .i64 va1, .int .i64 va2, .int .i64 va3, .int .i64 va4, .slice va5o va5.length va5c, .slice qoA lA.length qcA, .slice qoB lB.length qcB]) ∧ oFn (⟨va1, va2, va3, va4, va5, lA, lB⟩ : Fn) ∧ Res pFn s (⟨va1, va2, va3, va4, va5, lA, lB⟩ : Fn) stB ∧ DdS w0 (setN wdB w.heap.size 0 [.int .i64 va1, .int .i64 va2, .int .i64 va3, .int .i64 va4, .slice va5o va5.length va5c, .slice qoA lA.length qcA, .slice qoB lB.length qcB]) rb stB ∧ Tr w (setN wdB w.heap.size 0 [.int .i64 va1, .int .i64 va2, .int .i64 va3, .int .i64 va4, .slice va5o va5.length va5c, .slice qoA lA.length qcA, .slice qoB lB.length qcB]) rb := by
                refine ⟨fun w2 kw => ⟨va5o, va5c, qoA, qcA, qoB, qcB, rfl, unhide Xa5 w2 (KW w2 kw), unhide XA w2 (KW w2 kw), unhide XB w2 (KW w2 kw)⟩, ?_, ?_, ?_, ?_⟩
                · exact ⟨unhide oa1, unhide oa2, unhide oa3, unhide oa4, ⟨big_len (unhide Xa5 _ (Kx.refl _ _ _ _)).2.1, fun _ _ => trivial⟩, ⟨big_len (unhide XA _ (Kx.refl _ _ _ _)).2.1, unhide OKA⟩, ⟨big_len (unhide XB _ (Kx.refl _ _ _ _)).2.1, unhide OKB⟩⟩
                · exact Res.map (fun x : Int × Int × Int × Int × List Bool × List In × List Nat => (⟨x.1, x.2.1, x.2.2.1, x.2.2.2.1, x.2.2.2.2.1, x.2.2.2.2.2.1, x.2.2.2.2.2.2⟩ : Fn)) ((unhide ra1).seq ((unhide ra2).seq ((unhide ra3).seq ((unhide ra4).seq ((unhide ra5).seq ((unhide RRA).seq (unhide RRB)))))))
                · exact (unhide DB).kept (setN_heap _ _ _ _ _ (by omega))
                · exact setN_tr _ (Nat.le_refl _) _ _ _ ((unhide TW).trans (unhide FB).tr)
              have eS : setN wdB w.heap.size 0 [.int .i64 va1, .int .i64 va2, .int .i64 va3, .int .i64 va4, .slice va5o va5.length va5c, .slice qoA lA.length qcA, .slice qoB lB.length qcB] = (((((((wdB.setCell ⟨w.heap.size, 0, none⟩ (.int .i64 va1)).setCell ⟨w.heap.size, 1, none⟩ (.int .i64 va2)).setCell ⟨w.heap.size, 2, none⟩ (.int .i64 va3)).setCell ⟨w.heap.size, 3, none⟩ (.int .i64 va4)).setCell ⟨w.heap.size, 4, none⟩ (.slice va5o va5.length va5c)).setCell ⟨w.heap.size, 5, none⟩ (.slice qoA lA.length qcA)).setCell ⟨w.heap.size, 6, none⟩ (.slice qoB lB.length qcB)) := rfl
              rw [eS] at QC FI
              clear eS KW
              have cc0 : (((((((wdB.setCell ⟨w.heap.size, 0, none⟩ (.int .i64 va1)).setCell ⟨w.heap.size, 1, none⟩ (.int .i64 va2)).setCell ⟨w.heap.size, 2, none⟩ (.int .i64 va3)).setCell ⟨w.heap.size, 3, none⟩ (.int .i64 va4)).setCell ⟨w.heap.size, 4, none⟩ (.slice va5o va5.length va5c)).setCell ⟨w.heap.size, 5, none⟩ (.slice qoA lA.length qcA)).setCell ⟨w.heap.size, 6, none⟩ (.slice qoB lB.length qcB)).cell? ⟨w.heap.size, 0, none⟩ = some (.int .i64 va1) := QC 0 _ rfl
              have cc1 : (((((((wdB.setCell ⟨w.heap.size, 0, none⟩ (.int .i64 va1)).setCell ⟨w.heap.size, 1, none⟩ (.int .i64 va2)).setCell ⟨w.heap.size, 2, none⟩ (.int .i64 va3)).setCell ⟨w.heap.size, 3, none⟩ (.int .i64 va4)).setCell ⟨w.heap.size, 4, none⟩ (.slice va5o va5.length va5c)).setCell ⟨w.heap.size, 5, none⟩ (.slice qoA lA.length qcA)).setCell ⟨w.heap.size, 6, none⟩ (.slice qoB lB.length qcB)).cell? ⟨w.heap.size, 1, none⟩ = some (.int .i64 va2) := QC 1 _ rfl
              have cc2 : (((((((wdB.setCell ⟨w.heap.size, 0, none⟩ (.int .i64 va1)).setCell ⟨w.heap.size, 1, none⟩ (.int .i64 va2)).setCell ⟨w.heap.size, 2, none⟩ (.int .i64 va3)).setCell ⟨w.heap.size, 3, none⟩ (.int .i64 va4)).setCell ⟨w.heap.size, 4, none⟩ (.slice va5o va5.length va5c)).setCell ⟨w.heap.size, 5, none⟩ (.slice qoA lA.length qcA)).setCell ⟨w.heap.size, 6, none⟩ (.slice qoB lB.length qcB)).cell? ⟨w.heap.size, 2, none⟩ = some (.int .i64 va3) := QC 2 _ rfl
              have cc3 : (((((((wdB.setCell ⟨w.heap.size, 0, none⟩ (.int .i64 va1)).setCell ⟨w.heap.size, 1, none⟩ (.int .i64 va2)).setCell ⟨w.heap.size, 2, none⟩ (.int .i64 va3)).setCell ⟨w.heap.size, 3, none⟩ (.int .i64 va4)).setCell ⟨w.heap.size, 4, none⟩ (.slice va5o va5.length va5c)).setCell ⟨w.heap.size, 5, none⟩ (.slice qoA lA.length qcA)).setCell ⟨w.heap.size, 6, none⟩ (.slice qoB lB.length qcB)).cell? ⟨w.heap.size, 3, none⟩ = some (.int .i64 va4) := QC 3 _ rfl
              have cc4 : (((((((wdB.setCell ⟨w.heap.size, 0, none⟩ (.int .i64 va1)).setCell ⟨w.heap.size, 1, none⟩ (.int .i64 va2)).setCell ⟨w.heap.size, 2, none⟩ (.int .i64 va3)).setCell ⟨w.heap.size, 3, none⟩ (.int .i64 va4)).setCell ⟨w.heap.size, 4, none⟩ (.slice va5o va5.length va5c)).setCell ⟨w.heap.size, 5, none⟩ (.slice qoA lA.length qcA)).setCell ⟨w.heap.size, 6, none⟩ (.slice qoB lB.length qcB)).cell? ⟨w.heap.size, 4, none⟩ = some (.slice va5o va5.length va5c) := QC 4 _ rfl
              have cc5 : (((((((wdB.setCell ⟨w.heap.size, 0, none⟩ (.int .i64 va1)).setCell ⟨w.heap.size, 1, none⟩ (.int .i64 va2)).setCell ⟨w.heap.size, 2, none⟩ (.int .i64 va3)).setCell ⟨w.heap.size, 3, none⟩ (.int .i64 va4)).setCell ⟨w.heap.size, 4, none⟩ (.slice va5o va5.length va5c)).setCell ⟨w.heap.size, 5, none⟩ (.slice qoA lA.length qcA)).setCell ⟨w.heap.size, 6, none⟩ (.slice qoB lB.length qcB)).cell? ⟨w.heap.size, 5, none⟩ = some (.slice qoA lA.length qcA) := QC 5 _ rfl
              have cc6 : (((((((wdB.setCell ⟨w.heap.size, 0, none⟩ (.int .i64 va1)).setCell ⟨w.heap.size, 1, none⟩ (.int .i64 va2)).setCell ⟨w.heap.size, 2, none⟩ (.int .i64 va3)).setCell ⟨w.heap.size, 3, none⟩ (.int .i64 va4)).setCell ⟨w.heap.size, 4, none⟩ (.slice va5o va5.length va5c)).setCell ⟨w.heap.size, 5, none⟩ (.slice qoA lA.length qcA)).setCell ⟨w.heap.size, 6, none⟩ (.slice qoB lB.length qcB)).cell? ⟨w.heap.size, 6, none⟩ = some (.slice qoB lB.length qcB) := QC 6 _ rfl
              replace FI := hide FI
              clear QC FB DB XA XB Xa5 RRA RRB OKA OKB hs
              go_wp2_with fail
              refine bodyPost_ret (by simp [results, Tryd.results48, go_sem, cc0, cc1, cc2, cc3, cc4, cc5, cc6]; try rfl) rfl ?_
              exact ⟨va5o, va5c, qoA, qcA, qoB, qcB, (⟨va1, va2, va3, va4, va5, lA, lB⟩ : Fn), stB, rfl, unhide FI⟩
end Go.Proofs.YtdekhnfncecacaaDoor
