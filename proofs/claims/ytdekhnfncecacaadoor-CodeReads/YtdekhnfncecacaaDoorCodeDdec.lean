/- The document's own Decode (gantlineref9.Decode). -/
import Derived.Test.YtdekhnfncecacaaDoorCodeDfn
namespace Go.Proofs.YtdekhnfncecacaaDoor
set_option maxRecDepth 100000
open Go.RowKit Go.Maps Go.ChangeShapes Go.WideShapes Go.ChangeAt Go.Deep

/-- What the document's Decode answers. -/
def DdecTo (w w' : World) (zs : List Int) (e : Ending) : Prop := ∃ (v : Value) (ok : Bool) (m : Md), e = .returned (.tuple #[v, .bool ok]) ∧ ModAt w' v m ∧ oMd m ∧ G w w' ∧ ((decM zs = some m ∧ ok = true) ∨ (decM zs = none ∧ ok = false ∧ m = noMd))
theorem ddec_none {w w' : World} {zs : List Int} (g : G w w') (h : decM zs = none) : DdecTo w w' zs (.returned (.tuple #[.agg #[.slice none 0 0, .slice none 0 0, .slice none 0 0, .slice none 0 0, .slice none 0 0, .int .i64 0], .bool false])) :=
  ⟨_, false, noMd, rfl, noMd_at w', noMd_ok, g, Or.inr ⟨h, rfl, rfl⟩⟩
theorem dec_no {zs : List Int} (h : ¬ zs.take 4 = fst4) : decM zs = none := by unfold decM; rw [if_neg h]
theorem tr_G {w W1 x : World} {rb : Nat} (g : G w W1) (t : Tr W1 x rb) (h : w.heap.size ≤ rb) : G w x :=
  ⟨t.os.trans g.os, t.tape.trans g.tape, t.output.trans g.output, Nat.le_trans g.size t.size, fun b hb => (t.block b (Nat.lt_of_lt_of_le hb g.size) (by omega)).trans (g.block b hb)⟩
theorem g_zero {w x : World} (g : G w x) : G w ((((((x.setCell ⟨w.heap.size, 0, none⟩ (.slice none 0 0)).setCell ⟨w.heap.size, 1, none⟩ (.slice none 0 0)).setCell ⟨w.heap.size, 2, none⟩ (.slice none 0 0)).setCell ⟨w.heap.size, 3, none⟩ (.slice none 0 0)).setCell ⟨w.heap.size, 4, none⟩ (.slice none 0 0)).setCell ⟨w.heap.size, 5, none⟩ (.int .i64 0)) := setN_G (w := w) w.heap.size (Nat.le_refl _) [.slice none 0 0, .slice none 0 0, .slice none 0 0, .slice none 0 0, .slice none 0 0, .int .i64 0] x 0 g

set_option maxHeartbeats 1000000 in
theorem ddec_few (w : World) (ao : Option Addr) (n c : Nat) (zs : List Int) (h : Row w ao n zs) (h4 : n < 4) :
    Calls Tryd.prog 13 #[.slice ao n c] w fun e w' => DdecTo w w' zs e := by
  have K := hide (fun x (g : G w x) => ddec_none (zs := zs) g (dec_no (fun e => by
    have := congrArg List.length e
    rw [List.length_take, h.1] at this
    simp [fst4] at this
    omega)))
  have hi : (n : Int) < 4 := by omega
  clear h
  go_enter Tryd.func13, Tryd.ntmps13
  go_wp2_with fail
  refine bodyPost_ret (by simp [results, Tryd.results13, go_sem]; try rfl) rfl ?_
  exact unhide K _ (by first | exact G.alloc _ _ | exact g_zero (G.alloc _ _))
set_option maxHeartbeats 1000000 in
theorem ddec_no (w : World) (b off n c : Nat) (zs : List Int) (h : Row w (some ⟨b, off, none⟩) n zs) (h4 : 4 ≤ n) (hnc : n ≤ c) (hp : ¬ zs.take 4 = fst4) :
    Calls Tryd.prog 13 #[.slice (some ⟨b, off, none⟩) n c] w fun e w' => DdecTo w w' zs e := by
  have K := hide (fun x (g : G w x) => ddec_none (zs := zs) g (dec_no hp))
  have hcv : (convert 31 9 (.slice (some ⟨b, off, none⟩) 4 c)).run Tryd.prog (w.alloc (.cells #[.slice none 0 0, .slice none 0 0, .slice none 0 0, .slice none 0 0, .slice none 0 0, .int .i64 0] 37)) = .ok (.string (strOfNums (zs.take 4))) (w.alloc (.cells #[.slice none 0 0, .slice none 0 0, .slice none 0 0, .slice none 0 0, .slice none 0 0, .int .i64 0] 37)) := conv_row ((h.take h4).later (G.alloc _ _)) c
  have hst0 := str_eq (h.take h4).2.1 fst_byt
  rw [decide_eq_false hp] at hst0
  have est : (strOfNums fst4).toList = [71, 79, 76, 49] := by first | rfl | decide +kernel
  have hst : ((strOfNums (zs.take 4)).toList == [71, 79, 76, 49]) = false := by rw [← est]; exact hst0
  clear est
  clear hst0
  have hi : ¬ (n : Int) < 4 := by omega
  have hc4 : (4 : Int) ≤ (c : Int) := by omega
  have hcn : 4 ≤ c := by omega
  generalize strOfNums (zs.take 4) = S4 at *
  clear h
  go_enter Tryd.func13, Tryd.ntmps13
  go_wp2_with fail
  refine bodyPost_ret (by simp [results, Tryd.results13, go_sem]; try rfl) rfl ?_
  exact unhide K _ (by first | exact G.alloc _ _ | exact g_zero (G.alloc _ _))

set_option maxHeartbeats 16000000 in
theorem ddec_yes (w : World) (b off n c : Nat) (zs : List Int) (h : Row w (some ⟨b, off, none⟩) n zs) (h4 : 4 ≤ n) (hnc : n ≤ c) (hn : n ≤ 10000000) (hp : zs.take 4 = fst4) :
    Calls Tryd.prog 13 #[.slice (some ⟨b, off, none⟩) n c] w fun e w' => DdecTo w w' zs e := by
  have hcv : (convert 31 9 (.slice (some ⟨b, off, none⟩) 4 c)).run Tryd.prog (w.alloc (.cells #[.slice none 0 0, .slice none 0 0, .slice none 0 0, .slice none 0 0, .slice none 0 0, .int .i64 0] 37)) = .ok (.string ⟨#[71, 79, 76, 49]⟩) (w.alloc (.cells #[.slice none 0 0, .slice none 0 0, .slice none 0 0, .slice none 0 0, .slice none 0 0, .int .i64 0] 37)) := by
    have := conv_row ((h.take h4).later (G.alloc w (.cells #[.slice none 0 0, .slice none 0 0, .slice none 0 0, .slice none 0 0, .slice none 0 0, .int .i64 0] 37))) c
    rw [hp] at this
    exact this
  have hi : ¬ (n : Int) < 4 := by omega
  have hc4 : (4 : Int) ≤ (c : Int) := by omega
  have hcn : 4 ≤ c := by omega
  have HR := hide h
  have HP := hide hp
  clear h hp
  go_enter Tryd.func13, Tryd.ntmps13
  go_upto_region 3 with fail
  go_cut [4] (fun p wx => ∃ off', (n = 4 ∨ off' = off + 4) ∧ p = .pointer (some ⟨w.heap.size + 1, 0, none⟩) ∧ Hid (wx = ((w.alloc (.cells #[.slice none 0 0, .slice none 0 0, .slice none 0 0, .slice none 0 0, .slice none 0 0, .int .i64 0] 37)).alloc (.cells #[.slice (some ⟨b, off', none⟩) (n - 4) (c - 4), .bool false] 106))))
  case first =>
    go_wp2_with fail
    · obtain rfl : c = 4 := by omega
      go_meet
      exact ⟨off, Or.inl (by omega), rfl, hide rfl⟩
    · go_meet
      exact ⟨off + 4, Or.inr rfl, rfl, hide rfl⟩
  case rest =>
  obtain ⟨off', ho, rfl, hwc⟩ := hcut
  obtain ⟨rb, hrbd⟩ : ∃ r, r = w.heap.size + 1 := ⟨_, rfl⟩
  obtain ⟨W1, hW1⟩ : ∃ y, y = wc := ⟨_, rfl⟩
  subst hW1
  have hW1 := unhide hwc
  clear hwc hcv
  have gW : G w W1 := by rw [hW1]; exact (G.alloc _ _).trans (G.alloc _ _)
  have hsW : W1.heap.size = w.heap.size + 2 := by rw [hW1, World.size_alloc, World.size_alloc]
  have hrbW : rb < W1.heap.size := by omega
  have hrb : w.heap.size ≤ rb := by omega
  have hnr : w.heap.size ≠ rb := by omega
  have B0 : ∀ x, Tr W1 x rb → Below w.heap.size w x := fun x t => tr_G gW t hrb
  have DW : DdS w W1 rb (some (zs.drop 4)) := by
    rw [hrbd]
    refine ⟨some ⟨b, off', none⟩, n - 4, c - 4, ⟨by rw [hW1]; simp [go_sem], by rw [hW1]; simp [go_sem], by rw [hW1]; simp [go_sem], by rw [hW1]; simp [go_sem]⟩, by omega, by omega, (fun e => by cases e), ?_⟩
    rcases ho with ho | ho
    · exact ⟨by rw [List.length_drop, (unhide HR).1], fun z hz => (unhide HR).2.1 z (List.mem_of_mem_drop hz), Or.inl (by omega)⟩
    · rw [ho]; exact (unhide HR).drop h4
  replace DW := hide DW
  rw [← hrbd]
  have zc0 : Hid (W1.cell? ⟨w.heap.size, 0, none⟩ = some (.slice none 0 0)) := hide (by rw [hW1]; simp [go_sem])
  have zf0 : Hid (W1.frozen? ⟨w.heap.size, 0, none⟩ = false) := hide (by rw [hW1]; simp [go_sem])
  have zc1 : Hid (W1.cell? ⟨w.heap.size, 1, none⟩ = some (.slice none 0 0)) := hide (by rw [hW1]; simp [go_sem])
  have zf1 : Hid (W1.frozen? ⟨w.heap.size, 1, none⟩ = false) := hide (by rw [hW1]; simp [go_sem])
  have zc2 : Hid (W1.cell? ⟨w.heap.size, 2, none⟩ = some (.slice none 0 0)) := hide (by rw [hW1]; simp [go_sem])
  have zf2 : Hid (W1.frozen? ⟨w.heap.size, 2, none⟩ = false) := hide (by rw [hW1]; simp [go_sem])
  have zc3 : Hid (W1.cell? ⟨w.heap.size, 3, none⟩ = some (.slice none 0 0)) := hide (by rw [hW1]; simp [go_sem])
  have zf3 : Hid (W1.frozen? ⟨w.heap.size, 3, none⟩ = false) := hide (by rw [hW1]; simp [go_sem])
  have zc4 : Hid (W1.cell? ⟨w.heap.size, 4, none⟩ = some (.slice none 0 0)) := hide (by rw [hW1]; simp [go_sem])
  have zf4 : Hid (W1.frozen? ⟨w.heap.size, 4, none⟩ = false) := hide (by rw [hW1]; simp [go_sem])
  have zc5 : Hid (W1.cell? ⟨w.heap.size, 5, none⟩ = some (.int .i64 0)) := hide (by rw [hW1]; simp [go_sem])
  have zf5 : Hid (W1.frozen? ⟨w.heap.size, 5, none⟩ = false) := hide (by rw [hW1]; simp [go_sem])
  have I : Hid (∀ x s, Tr W1 x rb → DdS w x rb s → Calls Tryd.prog 44 #[.pointer (some ⟨rb, 0, none⟩)] x fun e w' => ∃ (v : Int) (s' : Option (List Int)), e = .returned (.int .i64 v) ∧ oI v ∧ Res pI s v s' ∧ DdS w w' rb s' ∧ Tr x w' rb) := hide (fun x s t h => di w x rb s (B0 x t) h)
  have U : Hid (∀ x s, Tr W1 x rb → DdS w x rb s → Calls Tryd.prog 45 #[.pointer (some ⟨rb, 0, none⟩)] x fun e w' => ∃ (u : Nat) (s' : Option (List Int)), e = .returned (.int .u64 (u : Int)) ∧ oU u ∧ Res pU s u s' ∧ DdS w w' rb s' ∧ Tr x w' rb) := hide (fun x s t h => du w x rb s (B0 x t) h)
  have NN : Hid (∀ x s, Tr W1 x rb → DdS w x rb s → Calls Tryd.prog 43 #[.pointer (some ⟨rb, 0, none⟩)] x fun e w' => ∃ (n : Nat) (s' : Option (List Int)), e = .returned (.int .i64 (n : Int)) ∧ n ≤ 10000000 ∧ Nn s n s' ∧ DdS w w' rb s' ∧ Tr x w' rb) := hide (fun x s t h => dn w x rb s (B0 x t) h)
  have BL : Hid (∀ x s, Tr W1 x rb → DdS w x rb s → Calls Tryd.prog 46 #[.pointer (some ⟨rb, 0, none⟩)] x fun e w' => ∃ (ao : Option Addr) (c : Nat) (l : List Bool) (s' : Option (List Int)), e = .returned (.slice ao l.length c) ∧ RowIn x.heap.size elB w' ao l.length c l ∧ Res (pL pB) s l s' ∧ DdS w w' rb s' ∧ Tr x w' rb) := hide (fun x s t h => dbools w x rb s hrb (B0 x t) h)
  have FN : Hid (∀ x s, Tr W1 x rb → DdS w x rb s → Calls Tryd.prog 48 #[.pointer (some ⟨rb, 0, none⟩)] x fun e w' => ∃ (ko : Option Addr) (kc : Nat) (io : Option Addr) (ic : Nat) (mo : Option Addr) (mc : Nat) (a : Fn) (s' : Option (List Int)), e = .returned (.agg #[.int .i64 a.p, .int .i64 a.c, .int .i64 a.s, .int .i64 a.r, .slice ko a.ks.length kc, .slice io a.is.length ic, .slice mo a.ms.length mc]) ∧ (∀ w2, KeepFrom x.heap.size w' w2 → FnCells w2 a [.int .i64 a.p, .int .i64 a.c, .int .i64 a.s, .int .i64 a.r, .slice ko a.ks.length kc, .slice io a.is.length ic, .slice mo a.ms.length mc]) ∧ oFn a ∧ Res pFn s a s' ∧ DdS w w' rb s' ∧ Tr x w' rb) := hide (fun x s t h => dfn w x rb s hrb (B0 x t) h)
  obtain ⟨gb, hgb⟩ : ∃ g, g = W1.heap.size := ⟨_, rfl⟩
  obtain ⟨y0, hy0⟩ : ∃ y, y = W1.alloc (.cells #[.slice none 0 0, .slice none 0 0, .slice none 0 0, .slice none 0 0, .slice none 0 0, .int .i64 0] 37) := ⟨_, rfl⟩
  have Fz : Hid (BoxS W1 gb rb [.slice none 0 0, .slice none 0 0, .slice none 0 0, .slice none 0 0, .slice none 0 0, .int .i64 0] y0) := hide (by rw [hgb, hy0]; exact BoxS.new [.slice none 0 0, .slice none 0 0, .slice none 0 0, .slice none 0 0, .slice none 0 0, .int .i64 0] 37 (Tr.refl W1 rb) hrbW)
  have Dz : Hid (DdS w y0 rb (some (zs.drop 4))) := hide (by rw [hy0]; exact (unhide DW).g (G.alloc _ _))
  have hne : gb ≠ rb := by omega
  obtain ⟨s, hs0⟩ : ∃ s, s = some (zs.drop 4) := ⟨_, rfl⟩
  rw [← hs0] at Dz
  replace hs0 := hide hs0
  replace B0 := hide B0
  replace gW := hide gW
  replace hsW := hide hsW
  clear DW hrbd HR ho hW1
  go_wp2_with fail
  rw [← hy0, ← hgb]
  clear hy0 hgb
  refine (unhide NN _ _ ((unhide Fz).tr) (unhide Dz)).mono ?_
  rintro e xn1 ⟨N1, sn1, rfl, on1, rn1, dn1, tn1⟩
  replace on1 := hide on1
  replace rn1 := hide rn1
  replace dn1 := hide dn1
  replace tn1 := hide tn1
  have Fn1 := hide ((unhide Fz).tr' (unhide tn1))
  clear Dz Fz tn1
  have hNbA : N1 ≤ 10000000 := unhide on1
  have ST : Hid (LrI elSp pSp oSp 81 w W1 xn1 gb rb 0 [.slice none 0 0, .slice none 0 0, .slice none 0 0, .slice none 0 0, .slice none 0 0, .int .i64 0] sn1 0 [] sn1 (.slice none 0 0) xn1) := hide (LrI.start (unhide Fn1) rfl (unhide dn1))
  have EN : Hid (∀ k lk sk v wr, LrI elSp pSp oSp 81 w W1 xn1 gb rb 0 [.slice none 0 0, .slice none 0 0, .slice none 0 0, .slice none 0 0, .slice none 0 0, .int .i64 0] sn1 k lk sk v wr → k ≤ N1 → (sk = none ∨ k = N1) → LrE elSp pSp oSp w W1 xn1 gb rb 0 [.slice none 0 0, .slice none 0 0, .slice none 0 0, .slice none 0 0, .slice none 0 0, .int .i64 0] s lk sk v wr) := hide (fun k lk sk v wr H hk hor => LrI.done cSp (by decide) (unhide rn1) H hrbW (unhide Fn1).lo (unhide Fn1).lt hk hor)
  have AP : Hid (∀ k lk sk v wr, LrI elSp pSp oSp 81 w W1 xn1 gb rb 0 [.slice none 0 0, .slice none 0 0, .slice none 0 0, .slice none 0 0, .slice none 0 0, .int .i64 0] sn1 k lk sk v wr → k < N1 → ∀ x1 s2 (a : Sp), Tr wr x1 rb → DdS w x1 rb s2 → Res pSp sk a s2 → oSp a → ∃ gn cn x3, (Builtin.append_ #[33, 33] 33 #[v, .slice (some ⟨x1.heap.size, 0, none⟩) 1 1]).run Tryd.prog (x1.alloc (.cells #[.int .i64 a.k, .int .i64 a.f, .int .u64 (a.m : Int)] 81)) = .ok (.slice (some ⟨gn, 0, none⟩) (k + 1) cn) x3 ∧ x3.cell? ⟨gb, 0, none⟩ = some v ∧ x3.frozen? ⟨gb, 0, none⟩ = false ∧ LrI elSp pSp oSp 81 w W1 xn1 gb rb 0 [.slice none 0 0, .slice none 0 0, .slice none 0 0, .slice none 0 0, .slice none 0 0, .int .i64 0] sn1 (k + 1) (lk ++ [a]) s2 (.slice (some ⟨gn, 0, none⟩) (k + 1) cn) (x3.setCell ⟨gb, 0, none⟩ (.slice (some ⟨gn, 0, none⟩) (k + 1) cn))) := hide (fun k lk sk v wr H hk x1 s2 a t1 d2 hr oa => by
    obtain ⟨ii, hi, hz, hs, hb⟩ := info_parts info_rshape
    have hn := unhide on1
    exact LrI.app (E := elSp) Tryd.underlying33 hi hz hs hb rfl (by decide) (by decide) H hrbW (unhide Fn1).lo (unhide Fn1).lt (by simp) t1 d2 [.int .i64 a.k, .int .i64 a.f, .int .u64 (a.m : Int)] a hr oa rfl (fun _ _ => rfl) (by simp [Value.oneCell']) (by omega))
  have GW : Hid (∀ k lk sk v wr, LrI elSp pSp oSp 81 w W1 xn1 gb rb 0 [.slice none 0 0, .slice none 0 0, .slice none 0 0, .slice none 0 0, .slice none 0 0, .int .i64 0] sn1 k lk sk v wr → Tr W1 wr rb ∧ wr.cell? ⟨gb, 0, none⟩ = some v ∧ DdS w wr rb sk ∧ wr.cell? ⟨rb, 1, none⟩ = some (.bool sk.isNone)) := hide (fun k lk sk v wr H => ⟨H.gr.1.tr, H.gr.1.at 0 _ (by rfl), H.dd, H.dd.bad⟩)
  go_wp2_with fail
  go_loopw [7] (fun i wr => ∃ (k : Nat) (lk : List Sp) (sk : Option (List Int)) (v : Value), k ≤ N1 ∧ i = .int .i64 k ∧ Hid (LrI elSp pSp oSp 81 w W1 xn1 gb rb 0 [.slice none 0 0, .slice none 0 0, .slice none 0 0, .slice none 0 0, .slice none 0 0, .int .i64 0] sn1 k lk sk v wr)) (fun i _ => N1 - (intOf i).toNat)
  case atStart => exact ⟨0, [], sn1, _, Nat.zero_le _, rfl, ST⟩
  case round =>
    obtain ⟨k, lk, sk, v, hk, rfl, H⟩ := hrel
    clear ST
    obtain ⟨hTw, hv, hD, hbad⟩ := unhide GW k lk sk v wr (unhide H)
    replace hTw := hide hTw
    replace hD := hide hD
    obtain ⟨bb, hbb⟩ : ∃ q : Bool, q = sk.isNone := ⟨_, rfl⟩
    obtain ⟨q, hq⟩ : ∃ q : Bool, q = (decide (k < N1) && !bb) := ⟨_, rfl⟩
    rw [← hbb] at hbad
    go_upto_region 7 with fail
    go_cut [39] (fun p wx => p = .bool q ∧ wr = wx)
    case first =>
      replace hbb := hide hbb
      by_cases hlk : k < N1
      · have hki : (k : Int) < (N1 : Int) := by omega
        obtain rfl : q = !bb := by rw [hq]; simp [hlk]
        clear hq
        cases bb
        · go_wp2_with fail
          go_meet
          exact ⟨rfl, rfl⟩
        · go_wp2_with fail
          go_meet
          exact ⟨rfl, rfl⟩
      · have hki : ¬ (k : Int) < (N1 : Int) := by omega
        obtain rfl : q = false := by rw [hq]; simp [hlk]
        clear hq
        go_wp2_with fail
        go_meet
        exact ⟨rfl, rfl⟩
    case rest =>
      obtain ⟨rfl, rfl⟩ := hcut
      cases q
      rotate_left
      · have hlk : k < N1 := by
          have h := hq.symm
          simp at h
          exact h.1
        have hki : (k : Int) < (N1 : Int) := by omega
        have APk := hide (unhide AP k lk sk v wr (unhide H) hlk)
        clear EN AP GW H hq hbb hbad
        go_wp2_with fail
        refine (unhide I _ _ (unhide hTw) (unhide hD)).mono ?_
        rintro e xb1 ⟨vb1, sb1, rfl, ob1, rb1, db1, tb1⟩
        replace ob1 := hide ob1
        replace rb1 := hide rb1
        replace db1 := hide db1
        replace tb1 := hide tb1
        obtain ⟨xb, hxb⟩ : ∃ g, g = xb1.heap.size := ⟨_, rfl⟩
        obtain ⟨yb1, hyb1⟩ : ∃ y, y = xb1.alloc (.cells #[.int .i64 vb1, .int .i64 0, .int .u64 0] 81) := ⟨_, rfl⟩
        have Fb1 : Hid (BoxS wr xb rb [.int .i64 vb1, .int .i64 0, .int .u64 0] yb1) := hide (by rw [hyb1, hxb]; exact BoxS.new [.int .i64 vb1, .int .i64 0, .int .u64 0] 81 (Tr.trans (Tr.refl wr rb) (unhide tb1)) (unhide db1).lt)
        have Db1 : Hid (DdS w yb1 rb sb1) := hide (by rw [hyb1]; exact (unhide db1).g (G.alloc _ _))
        have Eb1 : Hid (Tr wr yb1 rb) := hide (by rw [hyb1]; exact (unhide tb1).trans (Tr.of_G rb (G.alloc _ _)))
        go_wp2_with fail
        rw [← hyb1, ← hxb]
        clear hyb1 hxb
        refine (unhide I _ _ ((unhide hTw).trans (unhide Fb1).tr) (unhide Db1)).mono ?_
        rintro e xb2 ⟨vb2, sb2, rfl, ob2, rb2, db2, tb2⟩
        replace ob2 := hide ob2
        replace rb2 := hide rb2
        replace db2 := hide db2
        replace tb2 := hide tb2
        have hc := ((unhide Fb1).tr' (unhide tb2)).at 1 _ rfl
        have hf := ((unhide Fb1).tr' (unhide tb2)).fz 1 (by simp)
        obtain ⟨yb2, hyb2⟩ : ∃ y, y = xb2.setCell ⟨xb, 1, none⟩ (.int .i64 vb2) := ⟨_, rfl⟩
        have Fb2 : Hid (BoxS wr xb rb [.int .i64 vb1, .int .i64 vb2, .int .u64 0] yb2) := hide (by rw [hyb2]; exact ((unhide Fb1).tr' (unhide tb2)).set 1 (.int .i64 vb2) (by simp))
        have Db2 : Hid (DdS w yb2 rb sb2) := hide (by rw [hyb2]; exact (unhide db2).set (unhide Fb1).ne)
        go_wp2_with fail
        rw [← hyb2]
        clear hyb2 hc hf
        refine (unhide U _ _ ((unhide hTw).trans (unhide Fb2).tr) (unhide Db2)).mono ?_
        rintro e xb3 ⟨vb3, sb3, rfl, ob3, rb3, db3, tb3⟩
        replace ob3 := hide ob3
        replace rb3 := hide rb3
        replace db3 := hide db3
        replace tb3 := hide tb3
        have hc := ((unhide Fb2).tr' (unhide tb3)).at 2 _ rfl
        have hf := ((unhide Fb2).tr' (unhide tb3)).fz 2 (by simp)
        obtain ⟨yb3, hyb3⟩ : ∃ y, y = xb3.setCell ⟨xb, 2, none⟩ (.int .u64 (vb3 : Int)) := ⟨_, rfl⟩
        have Fb3 : Hid (BoxS wr xb rb [.int .i64 vb1, .int .i64 vb2, .int .u64 (vb3 : Int)] yb3) := hide (by rw [hyb3]; exact ((unhide Fb2).tr' (unhide tb3)).set 2 (.int .u64 (vb3 : Int)) (by simp))
        have Db3 : Hid (DdS w yb3 rb sb3) := hide (by rw [hyb3]; exact (unhide db3).set (unhide Fb2).ne)
        go_upto_region 12 with fail
        rw [← hyb3]
        clear hyb3 hc hf
        have hv1 := (unhide Fb3).keep gb 0 v hv hne
        have hx0 := (unhide Fb3).at 0 _ rfl
        have hx1 := (unhide Fb3).at 1 _ rfl
        have hx2 := (unhide Fb3).at 2 _ rfl
        have APq := hide (unhide APk yb3 sb3 ⟨vb1, vb2, vb3⟩ (unhide Fb3).tr (unhide Db3) (Res.map (fun x : Int × Int × Nat => (⟨x.1, x.2.1, x.2.2⟩ : Sp)) ((unhide rb1).seq ((unhide rb2).seq (unhide rb3)))) ⟨unhide ob1, unhide ob2, unhide ob3⟩)
        clear APk hv hTw hD rb1 ob1 db1 tb1 Fb1 Db1 rb2 ob2 db2 tb2 Fb2 Db2 rb3 ob3 db3 tb3 Fb3 Db3 Eb1
        go_wp2_with (at_builtin; obtain ⟨gn, cn, x3, hrun, hcv, hfv, HG⟩ := unhide APq; replace HG := hide HG; refine wpl_run rfl (.tmp 52) (.tmp 54) 33 rfl _ _ rfl rfl _ _ hrun ?_; clear hrun APq)
        go_roundw
        case rel => exact ⟨k + 1, _, _, _, by omega, by go_num, HG⟩
        case measure => simp [intOf]; omega
      · have hor : sk = none ∨ k = N1 := by
          cases sk with
          | none => exact Or.inl rfl
          | some r =>
            have h := hq.symm
            rw [hbb] at h
            simp at h
            exact Or.inr (by omega)
        obtain ⟨qoA, qcA, rfl, XA, FX, KX, RRA, DX, OKA⟩ := unhide EN k lk sk v wr (unhide H) hk hor
        replace XA := hide XA
        replace RRA := hide RRA
        replace OKA := hide OKA
        have FA := hide FX
        have DA := hide DX
        clear FX DX KX EN AP GW H hv hTw hD hk hor hq hbb hbad
        obtain ⟨lA, hlA⟩ : ∃ l, l = lk := ⟨_, rfl⟩
        subst hlA
        obtain ⟨stA, hstA⟩ : ∃ l, l = sk := ⟨_, rfl⟩
        subst hstA
        obtain ⟨wdA, hwdA⟩ : ∃ y, y = wr := ⟨_, rfl⟩
        subst hwdA
        clear bb
        go_wp2_with fail
        refine (unhide BL _ _ ((unhide FA).tr) (unhide DA)).mono ?_
        rintro e xg1 ⟨vg1o, vg1c, vg1, sg1, rfl, og1, rg1, dg1, tg1⟩
        replace og1 := hide og1
        replace rg1 := hide rg1
        replace dg1 := hide dg1
        replace tg1 := hide tg1
        have hc := ((unhide FA).tr' (unhide tg1)).at 1 _ rfl
        have hf := ((unhide FA).tr' (unhide tg1)).fz 1 (by simp)
        obtain ⟨yg1, hyg1⟩ : ∃ y, y = xg1.setCell ⟨gb, 1, none⟩ (.slice vg1o vg1.length vg1c) := ⟨_, rfl⟩
        have Fg1 : Hid (BoxS W1 gb rb [.slice qoA lA.length qcA, .slice vg1o vg1.length vg1c, .slice none 0 0, .slice none 0 0, .slice none 0 0, .int .i64 0] yg1) := hide (by rw [hyg1]; exact ((unhide FA).tr' (unhide tg1)).set 1 (.slice vg1o vg1.length vg1c) (by simp))
        have Dg1 : Hid (DdS w yg1 rb sg1) := hide (by rw [hyg1]; exact (unhide dg1).set hne)
        have KX : Kx W1.heap.size gb none wdA yg1 := by rw [hyg1]; exact ((unhide tg1).kx hrbW).trans (kx_set _)
        replace XA := hide ((unhide XA).keep KX)
        have Xg1 : Hid (RowX W1.heap.size gb elB yg1 vg1o vg1.length vg1c vg1) := hide (by rw [hyg1]; exact ((unhide og1).x (unhide FA).tr.size (unhide FA).lt).keep (kx_set _))
        go_wp2_with fail
        rw [← hyg1]
        clear hyg1 hc hf KX FA DA tg1 dg1 og1
        refine (unhide NN _ _ ((unhide Fg1).tr) (unhide Dg1)).mono ?_
        rintro e xn2 ⟨N2, sn2, rfl, on2, rn2, dn2, tn2⟩
        replace on2 := hide on2
        replace rn2 := hide rn2
        replace dn2 := hide dn2
        replace tn2 := hide tn2
        have Fn2 := hide ((unhide Fg1).tr' (unhide tn2))
        replace XA := hide ((unhide XA).keep ((unhide tn2).kx hrbW))
        replace Xg1 := hide ((unhide Xg1).keep ((unhide tn2).kx hrbW))
        clear Dg1 Fg1 tn2
        have hNbB : N2 ≤ 10000000 := unhide on2
        have ST : Hid (LrI elI pI oI 2 w W1 xn2 gb rb 2 [.slice qoA lA.length qcA, .slice vg1o vg1.length vg1c, .slice none 0 0, .slice none 0 0, .slice none 0 0, .int .i64 0] sn2 0 [] sn2 (.slice none 0 0) xn2) := hide (LrI.start (unhide Fn2) rfl (unhide dn2))
        have EN : Hid (∀ k lk sk v wr, LrI elI pI oI 2 w W1 xn2 gb rb 2 [.slice qoA lA.length qcA, .slice vg1o vg1.length vg1c, .slice none 0 0, .slice none 0 0, .slice none 0 0, .int .i64 0] sn2 k lk sk v wr → k ≤ N2 → (sk = none ∨ k = N2) → LrE elI pI oI w W1 xn2 gb rb 2 [.slice qoA lA.length qcA, .slice vg1o vg1.length vg1c, .slice none 0 0, .slice none 0 0, .slice none 0 0, .int .i64 0] sg1 lk sk v wr) := hide (fun k lk sk v wr H hk hor => LrI.done cI (by decide) (unhide rn2) H hrbW (unhide Fn2).lo (unhide Fn2).lt hk hor)
        have AP : Hid (∀ k lk sk v wr, LrI elI pI oI 2 w W1 xn2 gb rb 2 [.slice qoA lA.length qcA, .slice vg1o vg1.length vg1c, .slice none 0 0, .slice none 0 0, .slice none 0 0, .int .i64 0] sn2 k lk sk v wr → k < N2 → ∀ x1 s2 (a : Int), Tr wr x1 rb → DdS w x1 rb s2 → Res pI sk a s2 → oI a → ∃ gn cn x3, (Builtin.append_ #[24, 24] 24 #[v, .slice (some ⟨x1.heap.size, 0, none⟩) 1 1]).run Tryd.prog (x1.alloc (.cells #[.int .i64 a] 2)) = .ok (.slice (some ⟨gn, 0, none⟩) (k + 1) cn) x3 ∧ x3.cell? ⟨gb, 2, none⟩ = some v ∧ x3.frozen? ⟨gb, 2, none⟩ = false ∧ LrI elI pI oI 2 w W1 xn2 gb rb 2 [.slice qoA lA.length qcA, .slice vg1o vg1.length vg1c, .slice none 0 0, .slice none 0 0, .slice none 0 0, .int .i64 0] sn2 (k + 1) (lk ++ [a]) s2 (.slice (some ⟨gn, 0, none⟩) (k + 1) cn) (x3.setCell ⟨gb, 2, none⟩ (.slice (some ⟨gn, 0, none⟩) (k + 1) cn))) := hide (fun k lk sk v wr H hk x1 s2 a t1 d2 hr oa => by
          obtain ⟨ii, hi, hz, hs, hb⟩ := info_parts info_int64
          have hn := unhide on2
          exact LrI.app (E := elI) Tryd.underlying24 hi hz hs hb rfl (by decide) (by decide) H hrbW (unhide Fn2).lo (unhide Fn2).lt (by simp) t1 d2 [.int .i64 a] a hr oa rfl (fun _ _ => rfl) (by simp [Value.oneCell']) (by omega))
        have GW : Hid (∀ k lk sk v wr, LrI elI pI oI 2 w W1 xn2 gb rb 2 [.slice qoA lA.length qcA, .slice vg1o vg1.length vg1c, .slice none 0 0, .slice none 0 0, .slice none 0 0, .int .i64 0] sn2 k lk sk v wr → Tr W1 wr rb ∧ wr.cell? ⟨gb, 2, none⟩ = some v ∧ DdS w wr rb sk ∧ wr.cell? ⟨rb, 1, none⟩ = some (.bool sk.isNone)) := hide (fun k lk sk v wr H => ⟨H.gr.1.tr, H.gr.1.at 2 _ (by rfl), H.dd, H.dd.bad⟩)
        go_wp2_with fail
        go_loopw [9] (fun i wr => ∃ (k : Nat) (lk : List Int) (sk : Option (List Int)) (v : Value), k ≤ N2 ∧ i = .int .i64 k ∧ Hid (LrI elI pI oI 2 w W1 xn2 gb rb 2 [.slice qoA lA.length qcA, .slice vg1o vg1.length vg1c, .slice none 0 0, .slice none 0 0, .slice none 0 0, .int .i64 0] sn2 k lk sk v wr)) (fun i _ => N2 - (intOf i).toNat)
        case atStart => exact ⟨0, [], sn2, _, Nat.zero_le _, rfl, ST⟩
        case round =>
          obtain ⟨k, lk, sk, v, hk, rfl, H⟩ := hrel
          clear ST
          obtain ⟨hTw, hv, hD, hbad⟩ := unhide GW k lk sk v wr (unhide H)
          replace hTw := hide hTw
          replace hD := hide hD
          obtain ⟨bb, hbb⟩ : ∃ q : Bool, q = sk.isNone := ⟨_, rfl⟩
          obtain ⟨q, hq⟩ : ∃ q : Bool, q = (decide (k < N2) && !bb) := ⟨_, rfl⟩
          rw [← hbb] at hbad
          go_upto_region 16 with fail
          go_cut [71] (fun p wx => p = .bool q ∧ wr = wx)
          case first =>
            replace hbb := hide hbb
            by_cases hlk : k < N2
            · have hki : (k : Int) < (N2 : Int) := by omega
              obtain rfl : q = !bb := by rw [hq]; simp [hlk]
              clear hq
              cases bb
              · go_wp2_with fail
                go_meet
                exact ⟨rfl, rfl⟩
              · go_wp2_with fail
                go_meet
                exact ⟨rfl, rfl⟩
            · have hki : ¬ (k : Int) < (N2 : Int) := by omega
              obtain rfl : q = false := by rw [hq]; simp [hlk]
              clear hq
              go_wp2_with fail
              go_meet
              exact ⟨rfl, rfl⟩
          case rest =>
            obtain ⟨rfl, rfl⟩ := hcut
            cases q
            rotate_left
            · have hlk : k < N2 := by
                have h := hq.symm
                simp at h
                exact h.1
              have hki : (k : Int) < (N2 : Int) := by omega
              have APk := hide (unhide AP k lk sk v wr (unhide H) hlk)
              clear EN AP GW H hq hbb hbad
              go_wp2_with fail
              refine wp_region_noPanic ?_
              refine wp_region_held_drew (S := fun _ => True) (by kernel_rfl) trivial (fun hHeld => ?_)
              obtain ⟨y0, hy0⟩ : ∃ y, y = wr.drew := ⟨_, rfl⟩
              have q0 : Hid (Tr wr y0 rb) := hide (by rw [hy0]; exact Tr.of_G rb (G.refl wr).drew)
              have D0 : Hid (DdS w y0 rb sk) := hide (by rw [hy0]; exact (unhide hD).g (G.refl wr).drew)
              rw [← hy0] at ⊢
              clear hy0 hHeld
              refine wpAnyH_take (i := 0) (v := .pointer (some ⟨gb, 2, none⟩)) rfl (by kernel_rfl) (by kernel_rfl) (by kernel_rfl) (fun _ _ _ h => h) (Or.inl ⟨by rfl, fun w _ => by go_simp⟩) trivial ?_
              try simp only [Act.put, List.getElem_toArray, List.getElem_cons_zero, List.setIfInBounds_toArray, List.set_cons_zero, List.set_cons_succ]
              refine wpAnyH_take (i := 2) (v := .pointer (some ⟨rb, 0, none⟩)) rfl (by kernel_rfl) (by kernel_rfl) (by kernel_rfl) (fun _ _ _ h => h) (Or.inl ⟨by rfl, fun w _ => by go_simp⟩) trivial ?_
              try simp only [Act.put, List.getElem_toArray, List.getElem_cons_succ, List.getElem_cons_zero, List.setIfInBounds_toArray, List.set_cons_zero, List.set_cons_succ]
              refine wpAnyH_ready (rs := [1, 3]) (by kernel_rfl) (by simp) ?_
              refine AllReadyH.cons rfl (fun K hK => ?_) (AllReadyH.cons rfl (fun K hK => ?_) AllReadyH.nil)
              · have hl := tr_cell (unhide q0) hv hne
                go_simp
                refine hK.out _ _ trivial (fun _ => ?_)
                clear hK K
                try simp only [Act.put, List.getElem_toArray, List.getElem_cons_succ, List.getElem_cons_zero, List.setIfInBounds_toArray, List.set_cons_zero, List.set_cons_succ]
                clear hl
                refine wpAnyH_ready (rs := [3]) (by kernel_rfl) (by simp) ?_
                refine AllReadyH.cons rfl (fun K hK => ?_) AllReadyH.nil
                go_simp
                refine (unhide U _ _ ((unhide hTw).trans (unhide q0)) (unhide D0)).mono ?_
                rintro e x ⟨u, s2, rfl, ho, hr, hd, ht⟩
                have q1 : Hid (Tr y0 x rb) := hide ht
                replace ho := hide ho
                replace hr := hide hr
                replace hd := hide hd
                clear ht
                go_wp2_with fail
                refine hK.out _ _ trivial (fun _ => ?_)
                clear hK K
                try simp only [Act.put, List.getElem_toArray, List.getElem_cons_succ, List.getElem_cons_zero, List.setIfInBounds_toArray, List.set_cons_zero, List.set_cons_succ]
                refine wpAnyH_ready (rs := [4]) (by kernel_rfl) (by simp) ?_
                refine AllReadyH.cons rfl (fun K hK => ?_) AllReadyH.nil
                go_simp
                refine (rzag_any u (unhide ho) x).mono ?_
                rintro e w2 ⟨rfl, hw2⟩
                rw [hw2]
                clear hw2
                go_wp2_with fail
                refine hK.out _ _ trivial (fun _ => ?_)
                clear hK K
                try simp only [Act.put, List.getElem_toArray, List.getElem_cons_succ, List.getElem_cons_zero, List.setIfInBounds_toArray, List.set_cons_zero, List.set_cons_succ]
                refine wpAnyH_ready (rs := [5]) (by kernel_rfl) (by simp) ?_
                refine AllReadyH.cons rfl (fun K hK => ?_) AllReadyH.nil
                go_simp
                refine hK.out _ _ trivial (fun _ => ?_)
                clear hK K
                try simp only [Act.put, List.getElem_toArray, List.getElem_cons_succ, List.getElem_cons_zero, List.setIfInBounds_toArray, List.set_cons_zero, List.set_cons_succ]
                refine wpAnyH_ready (rs := [6]) (by kernel_rfl) (by simp) ?_
                refine AllReadyH.cons rfl (fun K hK => ?_) AllReadyH.nil
                obtain ⟨gn, cn, x3, hrun, hcv, hfv, HG⟩ := unhide APk x s2 (zagI u) ((unhide q0).trans (unhide q1)) (unhide hd) ((unhide hr).map zagI) (by have h := unhide ho; unfold oU at h; unfold oI zagI; split <;> omega)
                replace HG := hide HG
                refine step_app rfl (.tmp 75) (.tmp 79) 24 rfl _ _ rfl rfl _ _ hrun ?_
                refine hK.out _ _ trivial (fun _ => ?_)
                clear hK K
                try simp only [Act.put, List.getElem_toArray, List.getElem_cons_succ, List.getElem_cons_zero, List.setIfInBounds_toArray, List.set_cons_zero, List.set_cons_succ]
                clear hrun
                refine wpAnyH_take (i := 7) (v := .pointer (some ⟨gb, 2, none⟩)) rfl (by kernel_rfl) (by kernel_rfl) (by kernel_rfl) (fun _ _ _ h => h) (Or.inl ⟨by rfl, fun w _ => by go_simp⟩) trivial ?_
                try simp only [Act.put, List.getElem_toArray, List.getElem_cons_succ, List.getElem_cons_zero, List.setIfInBounds_toArray, List.set_cons_zero, List.set_cons_succ]
                refine wpAnyH_ready (rs := [8]) (by kernel_rfl) (by simp) ?_
                refine AllReadyH.cons rfl (fun K hK => ?_) AllReadyH.nil
                go_simp
                refine hK.out _ _ trivial (fun _ => ?_)
                clear hK K
                try simp only [Act.put, List.getElem_toArray, List.getElem_cons_succ, List.getElem_cons_zero, List.setIfInBounds_toArray, List.set_cons_zero, List.set_cons_succ]
                refine wpAnyH_done (by kernel_rfl) (NoPanic.normal ?_) _
                clear hcv hfv
                go_wp2_with fail
                go_roundw
                case rel => exact ⟨k + 1, _, _, _, by omega, by go_num, HG⟩
                case measure => simp [intOf]; omega
              · go_simp
                refine (unhide U _ _ ((unhide hTw).trans (unhide q0)) (unhide D0)).mono ?_
                rintro e x ⟨u, s2, rfl, ho, hr, hd, ht⟩
                have q1 : Hid (Tr y0 x rb) := hide ht
                replace ho := hide ho
                replace hr := hide hr
                replace hd := hide hd
                clear ht
                go_wp2_with fail
                refine hK.out _ _ trivial (fun _ => ?_)
                clear hK K
                try simp only [Act.put, List.getElem_toArray, List.getElem_cons_succ, List.getElem_cons_zero, List.setIfInBounds_toArray, List.set_cons_zero, List.set_cons_succ]
                refine wpAnyH_ready (rs := [1, 4]) (by kernel_rfl) (by simp) ?_
                refine AllReadyH.cons rfl (fun K hK => ?_) (AllReadyH.cons rfl (fun K hK => ?_) AllReadyH.nil)
                · have hl := tr_cell ((unhide q0).trans (unhide q1)) hv hne
                  go_simp
                  refine hK.out _ _ trivial (fun _ => ?_)
                  clear hK K
                  try simp only [Act.put, List.getElem_toArray, List.getElem_cons_succ, List.getElem_cons_zero, List.setIfInBounds_toArray, List.set_cons_zero, List.set_cons_succ]
                  clear hl
                  refine wpAnyH_ready (rs := [4]) (by kernel_rfl) (by simp) ?_
                  refine AllReadyH.cons rfl (fun K hK => ?_) AllReadyH.nil
                  go_simp
                  refine (rzag_any u (unhide ho) x).mono ?_
                  rintro e w2 ⟨rfl, hw2⟩
                  rw [hw2]
                  clear hw2
                  go_wp2_with fail
                  refine hK.out _ _ trivial (fun _ => ?_)
                  clear hK K
                  try simp only [Act.put, List.getElem_toArray, List.getElem_cons_succ, List.getElem_cons_zero, List.setIfInBounds_toArray, List.set_cons_zero, List.set_cons_succ]
                  refine wpAnyH_ready (rs := [5]) (by kernel_rfl) (by simp) ?_
                  refine AllReadyH.cons rfl (fun K hK => ?_) AllReadyH.nil
                  go_simp
                  refine hK.out _ _ trivial (fun _ => ?_)
                  clear hK K
                  try simp only [Act.put, List.getElem_toArray, List.getElem_cons_succ, List.getElem_cons_zero, List.setIfInBounds_toArray, List.set_cons_zero, List.set_cons_succ]
                  refine wpAnyH_ready (rs := [6]) (by kernel_rfl) (by simp) ?_
                  refine AllReadyH.cons rfl (fun K hK => ?_) AllReadyH.nil
                  obtain ⟨gn, cn, x3, hrun, hcv, hfv, HG⟩ := unhide APk x s2 (zagI u) ((unhide q0).trans (unhide q1)) (unhide hd) ((unhide hr).map zagI) (by have h := unhide ho; unfold oU at h; unfold oI zagI; split <;> omega)
                  replace HG := hide HG
                  refine step_app rfl (.tmp 75) (.tmp 79) 24 rfl _ _ rfl rfl _ _ hrun ?_
                  refine hK.out _ _ trivial (fun _ => ?_)
                  clear hK K
                  try simp only [Act.put, List.getElem_toArray, List.getElem_cons_succ, List.getElem_cons_zero, List.setIfInBounds_toArray, List.set_cons_zero, List.set_cons_succ]
                  clear hrun
                  refine wpAnyH_take (i := 7) (v := .pointer (some ⟨gb, 2, none⟩)) rfl (by kernel_rfl) (by kernel_rfl) (by kernel_rfl) (fun _ _ _ h => h) (Or.inl ⟨by rfl, fun w _ => by go_simp⟩) trivial ?_
                  try simp only [Act.put, List.getElem_toArray, List.getElem_cons_succ, List.getElem_cons_zero, List.setIfInBounds_toArray, List.set_cons_zero, List.set_cons_succ]
                  refine wpAnyH_ready (rs := [8]) (by kernel_rfl) (by simp) ?_
                  refine AllReadyH.cons rfl (fun K hK => ?_) AllReadyH.nil
                  go_simp
                  refine hK.out _ _ trivial (fun _ => ?_)
                  clear hK K
                  try simp only [Act.put, List.getElem_toArray, List.getElem_cons_succ, List.getElem_cons_zero, List.setIfInBounds_toArray, List.set_cons_zero, List.set_cons_succ]
                  refine wpAnyH_done (by kernel_rfl) (NoPanic.normal ?_) _
                  clear hcv hfv
                  go_wp2_with fail
                  go_roundw
                  case rel => exact ⟨k + 1, _, _, _, by omega, by go_num, HG⟩
                  case measure => simp [intOf]; omega
                · go_simp
                  refine (rzag_any u (unhide ho) x).mono ?_
                  rintro e w2 ⟨rfl, hw2⟩
                  rw [hw2]
                  clear hw2
                  go_wp2_with fail
                  refine hK.out _ _ trivial (fun _ => ?_)
                  clear hK K
                  try simp only [Act.put, List.getElem_toArray, List.getElem_cons_succ, List.getElem_cons_zero, List.setIfInBounds_toArray, List.set_cons_zero, List.set_cons_succ]
                  refine wpAnyH_ready (rs := [1, 5]) (by kernel_rfl) (by simp) ?_
                  refine AllReadyH.cons rfl (fun K hK => ?_) (AllReadyH.cons rfl (fun K hK => ?_) AllReadyH.nil)
                  · have hl := tr_cell ((unhide q0).trans (unhide q1)) hv hne
                    go_simp
                    refine hK.out _ _ trivial (fun _ => ?_)
                    clear hK K
                    try simp only [Act.put, List.getElem_toArray, List.getElem_cons_succ, List.getElem_cons_zero, List.setIfInBounds_toArray, List.set_cons_zero, List.set_cons_succ]
                    clear hl
                    refine wpAnyH_ready (rs := [5]) (by kernel_rfl) (by simp) ?_
                    refine AllReadyH.cons rfl (fun K hK => ?_) AllReadyH.nil
                    go_simp
                    refine hK.out _ _ trivial (fun _ => ?_)
                    clear hK K
                    try simp only [Act.put, List.getElem_toArray, List.getElem_cons_succ, List.getElem_cons_zero, List.setIfInBounds_toArray, List.set_cons_zero, List.set_cons_succ]
                    refine wpAnyH_ready (rs := [6]) (by kernel_rfl) (by simp) ?_
                    refine AllReadyH.cons rfl (fun K hK => ?_) AllReadyH.nil
                    obtain ⟨gn, cn, x3, hrun, hcv, hfv, HG⟩ := unhide APk x s2 (zagI u) ((unhide q0).trans (unhide q1)) (unhide hd) ((unhide hr).map zagI) (by have h := unhide ho; unfold oU at h; unfold oI zagI; split <;> omega)
                    replace HG := hide HG
                    refine step_app rfl (.tmp 75) (.tmp 79) 24 rfl _ _ rfl rfl _ _ hrun ?_
                    refine hK.out _ _ trivial (fun _ => ?_)
                    clear hK K
                    try simp only [Act.put, List.getElem_toArray, List.getElem_cons_succ, List.getElem_cons_zero, List.setIfInBounds_toArray, List.set_cons_zero, List.set_cons_succ]
                    clear hrun
                    refine wpAnyH_take (i := 7) (v := .pointer (some ⟨gb, 2, none⟩)) rfl (by kernel_rfl) (by kernel_rfl) (by kernel_rfl) (fun _ _ _ h => h) (Or.inl ⟨by rfl, fun w _ => by go_simp⟩) trivial ?_
                    try simp only [Act.put, List.getElem_toArray, List.getElem_cons_succ, List.getElem_cons_zero, List.setIfInBounds_toArray, List.set_cons_zero, List.set_cons_succ]
                    refine wpAnyH_ready (rs := [8]) (by kernel_rfl) (by simp) ?_
                    refine AllReadyH.cons rfl (fun K hK => ?_) AllReadyH.nil
                    go_simp
                    refine hK.out _ _ trivial (fun _ => ?_)
                    clear hK K
                    try simp only [Act.put, List.getElem_toArray, List.getElem_cons_succ, List.getElem_cons_zero, List.setIfInBounds_toArray, List.set_cons_zero, List.set_cons_succ]
                    refine wpAnyH_done (by kernel_rfl) (NoPanic.normal ?_) _
                    clear hcv hfv
                    go_wp2_with fail
                    go_roundw
                    case rel => exact ⟨k + 1, _, _, _, by omega, by go_num, HG⟩
                    case measure => simp [intOf]; omega
                  · go_simp
                    refine hK.out _ _ trivial (fun _ => ?_)
                    clear hK K
                    try simp only [Act.put, List.getElem_toArray, List.getElem_cons_succ, List.getElem_cons_zero, List.setIfInBounds_toArray, List.set_cons_zero, List.set_cons_succ]
                    refine wpAnyH_ready (rs := [1]) (by kernel_rfl) (by simp) ?_
                    refine AllReadyH.cons rfl (fun K hK => ?_) AllReadyH.nil
                    have hl := tr_cell (((unhide q0).trans (unhide q1)).trans (Tr.of_G rb (G.alloc x (.cells #[.int .i64 (zagI u)] 2)))) hv hne
                    go_simp
                    refine hK.out _ _ trivial (fun _ => ?_)
                    clear hK K
                    try simp only [Act.put, List.getElem_toArray, List.getElem_cons_succ, List.getElem_cons_zero, List.setIfInBounds_toArray, List.set_cons_zero, List.set_cons_succ]
                    clear hl
                    refine wpAnyH_ready (rs := [6]) (by kernel_rfl) (by simp) ?_
                    refine AllReadyH.cons rfl (fun K hK => ?_) AllReadyH.nil
                    obtain ⟨gn, cn, x3, hrun, hcv, hfv, HG⟩ := unhide APk x s2 (zagI u) ((unhide q0).trans (unhide q1)) (unhide hd) ((unhide hr).map zagI) (by have h := unhide ho; unfold oU at h; unfold oI zagI; split <;> omega)
                    replace HG := hide HG
                    refine step_app rfl (.tmp 75) (.tmp 79) 24 rfl _ _ rfl rfl _ _ hrun ?_
                    refine hK.out _ _ trivial (fun _ => ?_)
                    clear hK K
                    try simp only [Act.put, List.getElem_toArray, List.getElem_cons_succ, List.getElem_cons_zero, List.setIfInBounds_toArray, List.set_cons_zero, List.set_cons_succ]
                    clear hrun
                    refine wpAnyH_take (i := 7) (v := .pointer (some ⟨gb, 2, none⟩)) rfl (by kernel_rfl) (by kernel_rfl) (by kernel_rfl) (fun _ _ _ h => h) (Or.inl ⟨by rfl, fun w _ => by go_simp⟩) trivial ?_
                    try simp only [Act.put, List.getElem_toArray, List.getElem_cons_succ, List.getElem_cons_zero, List.setIfInBounds_toArray, List.set_cons_zero, List.set_cons_succ]
                    refine wpAnyH_ready (rs := [8]) (by kernel_rfl) (by simp) ?_
                    refine AllReadyH.cons rfl (fun K hK => ?_) AllReadyH.nil
                    go_simp
                    refine hK.out _ _ trivial (fun _ => ?_)
                    clear hK K
                    try simp only [Act.put, List.getElem_toArray, List.getElem_cons_succ, List.getElem_cons_zero, List.setIfInBounds_toArray, List.set_cons_zero, List.set_cons_succ]
                    refine wpAnyH_done (by kernel_rfl) (NoPanic.normal ?_) _
                    clear hcv hfv
                    go_wp2_with fail
                    go_roundw
                    case rel => exact ⟨k + 1, _, _, _, by omega, by go_num, HG⟩
                    case measure => simp [intOf]; omega
            · have hor : sk = none ∨ k = N2 := by
                cases sk with
                | none => exact Or.inl rfl
                | some r =>
                  have h := hq.symm
                  rw [hbb] at h
                  simp at h
                  exact Or.inr (by omega)
              obtain ⟨qoB, qcB, rfl, XB, FX, KX, RRB, DX, OKB⟩ := unhide EN k lk sk v wr (unhide H) hk hor
              replace XA := hide ((unhide XA).keep KX)
              replace Xg1 := hide ((unhide Xg1).keep KX)
              replace XB := hide XB
              replace RRB := hide RRB
              replace OKB := hide OKB
              have FB := hide FX
              have DB := hide DX
              clear FX DX KX EN AP GW H hv hTw hD hk hor hq hbb hbad
              obtain ⟨lB, hlB⟩ : ∃ l, l = lk := ⟨_, rfl⟩
              subst hlB
              obtain ⟨stB, hstB⟩ : ∃ l, l = sk := ⟨_, rfl⟩
              subst hstB
              obtain ⟨wdB, hwdB⟩ : ∃ y, y = wr := ⟨_, rfl⟩
              subst hwdB
              clear bb
              go_wp2_with fail
              refine (unhide NN _ _ ((unhide FB).tr) (unhide DB)).mono ?_
              rintro e xn3 ⟨N3, sn3, rfl, on3, rn3, dn3, tn3⟩
              replace on3 := hide on3
              replace rn3 := hide rn3
              replace dn3 := hide dn3
              replace tn3 := hide tn3
              have Fn3 := hide ((unhide FB).tr' (unhide tn3))
              replace XA := hide ((unhide XA).keep ((unhide tn3).kx hrbW))
              replace Xg1 := hide ((unhide Xg1).keep ((unhide tn3).kx hrbW))
              replace XB := hide ((unhide XB).keep ((unhide tn3).kx hrbW))
              clear DB FB tn3
              have hNbC : N3 ≤ 10000000 := unhide on3
              have ST : Hid (LrI elCa pCa oCa 82 w W1 xn3 gb rb 3 [.slice qoA lA.length qcA, .slice vg1o vg1.length vg1c, .slice qoB lB.length qcB, .slice none 0 0, .slice none 0 0, .int .i64 0] sn3 0 [] sn3 (.slice none 0 0) xn3) := hide (LrI.start (unhide Fn3) rfl (unhide dn3))
              have EN : Hid (∀ k lk sk v wr, LrI elCa pCa oCa 82 w W1 xn3 gb rb 3 [.slice qoA lA.length qcA, .slice vg1o vg1.length vg1c, .slice qoB lB.length qcB, .slice none 0 0, .slice none 0 0, .int .i64 0] sn3 k lk sk v wr → k ≤ N3 → (sk = none ∨ k = N3) → LrE elCa pCa oCa w W1 xn3 gb rb 3 [.slice qoA lA.length qcA, .slice vg1o vg1.length vg1c, .slice qoB lB.length qcB, .slice none 0 0, .slice none 0 0, .int .i64 0] stB lk sk v wr) := hide (fun k lk sk v wr H hk hor => LrI.done cCa (by decide) (unhide rn3) H hrbW (unhide Fn3).lo (unhide Fn3).lt hk hor)
              have AP : Hid (∀ k lk sk v wr, LrI elCa pCa oCa 82 w W1 xn3 gb rb 3 [.slice qoA lA.length qcA, .slice vg1o vg1.length vg1c, .slice qoB lB.length qcB, .slice none 0 0, .slice none 0 0, .int .i64 0] sn3 k lk sk v wr → k < N3 → ∀ x1 s2 (a : Ca), Tr wr x1 rb → DdS w x1 rb s2 → Res pCa sk a s2 → oCa a → ∃ gn cn x3, (Builtin.append_ #[34, 34] 34 #[v, .slice (some ⟨x1.heap.size, 0, none⟩) 1 1]).run Tryd.prog (x1.alloc (.cells #[.int .i64 a.k, .int .i64 a.c, .int .i64 a.v, .int .i64 a.t] 82)) = .ok (.slice (some ⟨gn, 0, none⟩) (k + 1) cn) x3 ∧ x3.cell? ⟨gb, 3, none⟩ = some v ∧ x3.frozen? ⟨gb, 3, none⟩ = false ∧ LrI elCa pCa oCa 82 w W1 xn3 gb rb 3 [.slice qoA lA.length qcA, .slice vg1o vg1.length vg1c, .slice qoB lB.length qcB, .slice none 0 0, .slice none 0 0, .int .i64 0] sn3 (k + 1) (lk ++ [a]) s2 (.slice (some ⟨gn, 0, none⟩) (k + 1) cn) (x3.setCell ⟨gb, 3, none⟩ (.slice (some ⟨gn, 0, none⟩) (k + 1) cn))) := hide (fun k lk sk v wr H hk x1 s2 a t1 d2 hr oa => by
                obtain ⟨ii, hi, hz, hs, hb⟩ := info_parts info_rcase
                have hn := unhide on3
                exact LrI.app (E := elCa) Tryd.underlying34 hi hz hs hb rfl (by decide) (by decide) H hrbW (unhide Fn3).lo (unhide Fn3).lt (by simp) t1 d2 [.int .i64 a.k, .int .i64 a.c, .int .i64 a.v, .int .i64 a.t] a hr oa rfl (fun _ _ => rfl) (by simp [Value.oneCell']) (by omega))
              have GW : Hid (∀ k lk sk v wr, LrI elCa pCa oCa 82 w W1 xn3 gb rb 3 [.slice qoA lA.length qcA, .slice vg1o vg1.length vg1c, .slice qoB lB.length qcB, .slice none 0 0, .slice none 0 0, .int .i64 0] sn3 k lk sk v wr → Tr W1 wr rb ∧ wr.cell? ⟨gb, 3, none⟩ = some v ∧ DdS w wr rb sk ∧ wr.cell? ⟨rb, 1, none⟩ = some (.bool sk.isNone)) := hide (fun k lk sk v wr H => ⟨H.gr.1.tr, H.gr.1.at 3 _ (by rfl), H.dd, H.dd.bad⟩)
              go_wp2_with fail
              go_loopw [10] (fun i wr => ∃ (k : Nat) (lk : List Ca) (sk : Option (List Int)) (v : Value), k ≤ N3 ∧ i = .int .i64 k ∧ Hid (LrI elCa pCa oCa 82 w W1 xn3 gb rb 3 [.slice qoA lA.length qcA, .slice vg1o vg1.length vg1c, .slice qoB lB.length qcB, .slice none 0 0, .slice none 0 0, .int .i64 0] sn3 k lk sk v wr)) (fun i _ => N3 - (intOf i).toNat)
              case atStart => exact ⟨0, [], sn3, _, Nat.zero_le _, rfl, ST⟩
              case round =>
                obtain ⟨k, lk, sk, v, hk, rfl, H⟩ := hrel
                clear ST
                obtain ⟨hTw, hv, hD, hbad⟩ := unhide GW k lk sk v wr (unhide H)
                replace hTw := hide hTw
                replace hD := hide hD
                obtain ⟨bb, hbb⟩ : ∃ q : Bool, q = sk.isNone := ⟨_, rfl⟩
                obtain ⟨q, hq⟩ : ∃ q : Bool, q = (decide (k < N3) && !bb) := ⟨_, rfl⟩
                rw [← hbb] at hbad
                go_upto_region 21 with fail
                go_cut [93] (fun p wx => p = .bool q ∧ wr = wx)
                case first =>
                  replace hbb := hide hbb
                  by_cases hlk : k < N3
                  · have hki : (k : Int) < (N3 : Int) := by omega
                    obtain rfl : q = !bb := by rw [hq]; simp [hlk]
                    clear hq
                    cases bb
                    · go_wp2_with fail
                      go_meet
                      exact ⟨rfl, rfl⟩
                    · go_wp2_with fail
                      go_meet
                      exact ⟨rfl, rfl⟩
                  · have hki : ¬ (k : Int) < (N3 : Int) := by omega
                    obtain rfl : q = false := by rw [hq]; simp [hlk]
                    clear hq
                    go_wp2_with fail
                    go_meet
                    exact ⟨rfl, rfl⟩
                case rest =>
                  obtain ⟨rfl, rfl⟩ := hcut
                  cases q
                  rotate_left
                  · have hlk : k < N3 := by
                      have h := hq.symm
                      simp at h
                      exact h.1
                    have hki : (k : Int) < (N3 : Int) := by omega
                    have APk := hide (unhide AP k lk sk v wr (unhide H) hlk)
                    clear EN AP GW H hq hbb hbad
                    go_wp2_with fail
                    refine (unhide I _ _ (unhide hTw) (unhide hD)).mono ?_
                    rintro e xc1 ⟨vc1, sc1, rfl, oc1, rc1, dc1, tc1⟩
                    replace oc1 := hide oc1
                    replace rc1 := hide rc1
                    replace dc1 := hide dc1
                    replace tc1 := hide tc1
                    obtain ⟨xb, hxb⟩ : ∃ g, g = xc1.heap.size := ⟨_, rfl⟩
                    obtain ⟨yc1, hyc1⟩ : ∃ y, y = xc1.alloc (.cells #[.int .i64 vc1, .int .i64 0, .int .i64 0, .int .i64 0] 82) := ⟨_, rfl⟩
                    have Fc1 : Hid (BoxS wr xb rb [.int .i64 vc1, .int .i64 0, .int .i64 0, .int .i64 0] yc1) := hide (by rw [hyc1, hxb]; exact BoxS.new [.int .i64 vc1, .int .i64 0, .int .i64 0, .int .i64 0] 82 (Tr.trans (Tr.refl wr rb) (unhide tc1)) (unhide dc1).lt)
                    have Dc1 : Hid (DdS w yc1 rb sc1) := hide (by rw [hyc1]; exact (unhide dc1).g (G.alloc _ _))
                    have Ec1 : Hid (Tr wr yc1 rb) := hide (by rw [hyc1]; exact (unhide tc1).trans (Tr.of_G rb (G.alloc _ _)))
                    go_wp2_with fail
                    rw [← hyc1, ← hxb]
                    clear hyc1 hxb
                    refine (unhide I _ _ ((unhide hTw).trans (unhide Fc1).tr) (unhide Dc1)).mono ?_
                    rintro e xc2 ⟨vc2, sc2, rfl, oc2, rc2, dc2, tc2⟩
                    replace oc2 := hide oc2
                    replace rc2 := hide rc2
                    replace dc2 := hide dc2
                    replace tc2 := hide tc2
                    have hc := ((unhide Fc1).tr' (unhide tc2)).at 1 _ rfl
                    have hf := ((unhide Fc1).tr' (unhide tc2)).fz 1 (by simp)
                    obtain ⟨yc2, hyc2⟩ : ∃ y, y = xc2.setCell ⟨xb, 1, none⟩ (.int .i64 vc2) := ⟨_, rfl⟩
                    have Fc2 : Hid (BoxS wr xb rb [.int .i64 vc1, .int .i64 vc2, .int .i64 0, .int .i64 0] yc2) := hide (by rw [hyc2]; exact ((unhide Fc1).tr' (unhide tc2)).set 1 (.int .i64 vc2) (by simp))
                    have Dc2 : Hid (DdS w yc2 rb sc2) := hide (by rw [hyc2]; exact (unhide dc2).set (unhide Fc1).ne)
                    go_wp2_with fail
                    rw [← hyc2]
                    clear hyc2 hc hf
                    refine (unhide I _ _ ((unhide hTw).trans (unhide Fc2).tr) (unhide Dc2)).mono ?_
                    rintro e xc3 ⟨vc3, sc3, rfl, oc3, rc3, dc3, tc3⟩
                    replace oc3 := hide oc3
                    replace rc3 := hide rc3
                    replace dc3 := hide dc3
                    replace tc3 := hide tc3
                    have hc := ((unhide Fc2).tr' (unhide tc3)).at 2 _ rfl
                    have hf := ((unhide Fc2).tr' (unhide tc3)).fz 2 (by simp)
                    obtain ⟨yc3, hyc3⟩ : ∃ y, y = xc3.setCell ⟨xb, 2, none⟩ (.int .i64 vc3) := ⟨_, rfl⟩
                    have Fc3 : Hid (BoxS wr xb rb [.int .i64 vc1, .int .i64 vc2, .int .i64 vc3, .int .i64 0] yc3) := hide (by rw [hyc3]; exact ((unhide Fc2).tr' (unhide tc3)).set 2 (.int .i64 vc3) (by simp))
                    have Dc3 : Hid (DdS w yc3 rb sc3) := hide (by rw [hyc3]; exact (unhide dc3).set (unhide Fc2).ne)
                    go_wp2_with fail
                    rw [← hyc3]
                    clear hyc3 hc hf
                    refine (unhide I _ _ ((unhide hTw).trans (unhide Fc3).tr) (unhide Dc3)).mono ?_
                    rintro e xc4 ⟨vc4, sc4, rfl, oc4, rc4, dc4, tc4⟩
                    replace oc4 := hide oc4
                    replace rc4 := hide rc4
                    replace dc4 := hide dc4
                    replace tc4 := hide tc4
                    have hc := ((unhide Fc3).tr' (unhide tc4)).at 3 _ rfl
                    have hf := ((unhide Fc3).tr' (unhide tc4)).fz 3 (by simp)
                    obtain ⟨yc4, hyc4⟩ : ∃ y, y = xc4.setCell ⟨xb, 3, none⟩ (.int .i64 vc4) := ⟨_, rfl⟩
                    have Fc4 : Hid (BoxS wr xb rb [.int .i64 vc1, .int .i64 vc2, .int .i64 vc3, .int .i64 vc4] yc4) := hide (by rw [hyc4]; exact ((unhide Fc3).tr' (unhide tc4)).set 3 (.int .i64 vc4) (by simp))
                    have Dc4 : Hid (DdS w yc4 rb sc4) := hide (by rw [hyc4]; exact (unhide dc4).set (unhide Fc3).ne)
                    go_upto_region 27 with fail
                    rw [← hyc4]
                    clear hyc4 hc hf
                    have hv1 := (unhide Fc4).keep gb 3 v hv hne
                    have hx0 := (unhide Fc4).at 0 _ rfl
                    have hx1 := (unhide Fc4).at 1 _ rfl
                    have hx2 := (unhide Fc4).at 2 _ rfl
                    have hx3 := (unhide Fc4).at 3 _ rfl
                    have APq := hide (unhide APk yc4 sc4 ⟨vc1, vc2, vc3, vc4⟩ (unhide Fc4).tr (unhide Dc4) (Res.map (fun x : Int × Int × Int × Int => (⟨x.1, x.2.1, x.2.2.1, x.2.2.2⟩ : Ca)) ((unhide rc1).seq ((unhide rc2).seq ((unhide rc3).seq (unhide rc4))))) ⟨unhide oc1, unhide oc2, unhide oc3, unhide oc4⟩)
                    clear APk hv hTw hD rc1 oc1 dc1 tc1 Fc1 Dc1 rc2 oc2 dc2 tc2 Fc2 Dc2 rc3 oc3 dc3 tc3 Fc3 Dc3 rc4 oc4 dc4 tc4 Fc4 Dc4 Ec1
                    go_wp2_with (at_builtin; obtain ⟨gn, cn, x3, hrun, hcv, hfv, HG⟩ := unhide APq; replace HG := hide HG; refine wpl_run rfl (.tmp 109) (.tmp 111) 34 rfl _ _ rfl rfl _ _ hrun ?_; clear hrun APq)
                    go_roundw
                    case rel => exact ⟨k + 1, _, _, _, by omega, by go_num, HG⟩
                    case measure => simp [intOf]; omega
                  · have hor : sk = none ∨ k = N3 := by
                      cases sk with
                      | none => exact Or.inl rfl
                      | some r =>
                        have h := hq.symm
                        rw [hbb] at h
                        simp at h
                        exact Or.inr (by omega)
                    obtain ⟨qoC, qcC, rfl, XC, FX, KX, RRC, DX, OKC⟩ := unhide EN k lk sk v wr (unhide H) hk hor
                    replace XA := hide ((unhide XA).keep KX)
                    replace Xg1 := hide ((unhide Xg1).keep KX)
                    replace XB := hide ((unhide XB).keep KX)
                    replace XC := hide XC
                    replace RRC := hide RRC
                    replace OKC := hide OKC
                    have FC := hide FX
                    have DC := hide DX
                    clear FX DX KX EN AP GW H hv hTw hD hk hor hq hbb hbad
                    obtain ⟨lC, hlC⟩ : ∃ l, l = lk := ⟨_, rfl⟩
                    subst hlC
                    obtain ⟨stC, hstC⟩ : ∃ l, l = sk := ⟨_, rfl⟩
                    subst hstC
                    obtain ⟨wdC, hwdC⟩ : ∃ y, y = wr := ⟨_, rfl⟩
                    subst hwdC
                    clear bb
                    go_wp2_with fail
                    refine (unhide NN _ _ ((unhide FC).tr) (unhide DC)).mono ?_
                    rintro e xn4 ⟨N4, sn4, rfl, on4, rn4, dn4, tn4⟩
                    replace on4 := hide on4
                    replace rn4 := hide rn4
                    replace dn4 := hide dn4
                    replace tn4 := hide tn4
                    have Fn4 := hide ((unhide FC).tr' (unhide tn4))
                    replace XA := hide ((unhide XA).keep ((unhide tn4).kx hrbW))
                    replace Xg1 := hide ((unhide Xg1).keep ((unhide tn4).kx hrbW))
                    replace XB := hide ((unhide XB).keep ((unhide tn4).kx hrbW))
                    replace XC := hide ((unhide XC).keep ((unhide tn4).kx hrbW))
                    clear DC FC tn4
                    have hNbD : N4 ≤ 10000000 := unhide on4
                    have ST : Hid (LrI elFn pFn oFn 85 w W1 xn4 gb rb 4 [.slice qoA lA.length qcA, .slice vg1o vg1.length vg1c, .slice qoB lB.length qcB, .slice qoC lC.length qcC, .slice none 0 0, .int .i64 0] sn4 0 [] sn4 (.slice none 0 0) xn4) := hide (LrI.start (unhide Fn4) rfl (unhide dn4))
                    have EN : Hid (∀ k lk sk v wr, LrI elFn pFn oFn 85 w W1 xn4 gb rb 4 [.slice qoA lA.length qcA, .slice vg1o vg1.length vg1c, .slice qoB lB.length qcB, .slice qoC lC.length qcC, .slice none 0 0, .int .i64 0] sn4 k lk sk v wr → k ≤ N4 → (sk = none ∨ k = N4) → LrE elFn pFn oFn w W1 xn4 gb rb 4 [.slice qoA lA.length qcA, .slice vg1o vg1.length vg1c, .slice qoB lB.length qcB, .slice qoC lC.length qcC, .slice none 0 0, .int .i64 0] stC lk sk v wr) := hide (fun k lk sk v wr H hk hor => LrI.done cFn (by decide) (unhide rn4) H hrbW (unhide Fn4).lo (unhide Fn4).lt hk hor)
                    have AP : Hid (∀ k lk sk v wr, LrI elFn pFn oFn 85 w W1 xn4 gb rb 4 [.slice qoA lA.length qcA, .slice vg1o vg1.length vg1c, .slice qoB lB.length qcB, .slice qoC lC.length qcC, .slice none 0 0, .int .i64 0] sn4 k lk sk v wr → k < N4 → ∀ x1 s2 (a : Fn) (ko : Option Addr) (kc : Nat) (io : Option Addr) (ic : Nat) (mo : Option Addr) (mc : Nat), Tr wr x1 rb → DdS w x1 rb s2 → Res pFn sk a s2 → oFn a → (∀ w', KeepFrom wr.heap.size x1 w' → FnCells w' a [.int .i64 a.p, .int .i64 a.c, .int .i64 a.s, .int .i64 a.r, .slice ko a.ks.length kc, .slice io a.is.length ic, .slice mo a.ms.length mc]) → ∃ gn cn x3, (Builtin.append_ #[35, 35] 35 #[v, .slice (some ⟨x1.heap.size, 0, none⟩) 1 1]).run Tryd.prog (x1.alloc (.cells #[.int .i64 a.p, .int .i64 a.c, .int .i64 a.s, .int .i64 a.r, .slice ko a.ks.length kc, .slice io a.is.length ic, .slice mo a.ms.length mc] 85)) = .ok (.slice (some ⟨gn, 0, none⟩) (k + 1) cn) x3 ∧ x3.cell? ⟨gb, 4, none⟩ = some v ∧ x3.frozen? ⟨gb, 4, none⟩ = false ∧ LrI elFn pFn oFn 85 w W1 xn4 gb rb 4 [.slice qoA lA.length qcA, .slice vg1o vg1.length vg1c, .slice qoB lB.length qcB, .slice qoC lC.length qcC, .slice none 0 0, .int .i64 0] sn4 (k + 1) (lk ++ [a]) s2 (.slice (some ⟨gn, 0, none⟩) (k + 1) cn) (x3.setCell ⟨gb, 4, none⟩ (.slice (some ⟨gn, 0, none⟩) (k + 1) cn))) := hide (fun k lk sk v wr H hk x1 s2 a ko kc io ic mo mc t1 d2 hr oa hE => by
                      obtain ⟨ii, hi, hz, hs, hb⟩ := info_parts info_rfunc
                      have hn := unhide on4
                      exact LrI.app (E := elFn) Tryd.underlying35 hi hz hs hb rfl (by decide) (by decide) H hrbW (unhide Fn4).lo (unhide Fn4).lt (by simp) t1 d2 [.int .i64 a.p, .int .i64 a.c, .int .i64 a.s, .int .i64 a.r, .slice ko a.ks.length kc, .slice io a.is.length ic, .slice mo a.ms.length mc] a hr oa rfl hE (by simp [Value.oneCell']) (by omega))
                    have GW : Hid (∀ k lk sk v wr, LrI elFn pFn oFn 85 w W1 xn4 gb rb 4 [.slice qoA lA.length qcA, .slice vg1o vg1.length vg1c, .slice qoB lB.length qcB, .slice qoC lC.length qcC, .slice none 0 0, .int .i64 0] sn4 k lk sk v wr → Tr W1 wr rb ∧ wr.cell? ⟨gb, 4, none⟩ = some v ∧ DdS w wr rb sk ∧ wr.cell? ⟨rb, 1, none⟩ = some (.bool sk.isNone)) := hide (fun k lk sk v wr H => ⟨H.gr.1.tr, H.gr.1.at 4 _ (by rfl), H.dd, H.dd.bad⟩)
                    go_wp2_with fail
                    go_loopw [12] (fun i wr => ∃ (k : Nat) (lk : List Fn) (sk : Option (List Int)) (v : Value), k ≤ N4 ∧ i = .int .i64 k ∧ Hid (LrI elFn pFn oFn 85 w W1 xn4 gb rb 4 [.slice qoA lA.length qcA, .slice vg1o vg1.length vg1c, .slice qoB lB.length qcB, .slice qoC lC.length qcC, .slice none 0 0, .int .i64 0] sn4 k lk sk v wr)) (fun i _ => N4 - (intOf i).toNat)
                    case atStart => exact ⟨0, [], sn4, _, Nat.zero_le _, rfl, ST⟩
                    case round =>
                      obtain ⟨k, lk, sk, v, hk, rfl, H⟩ := hrel
                      clear ST
                      obtain ⟨hTw, hv, hD, hbad⟩ := unhide GW k lk sk v wr (unhide H)
                      replace hTw := hide hTw
                      replace hD := hide hD
                      obtain ⟨bb, hbb⟩ : ∃ q : Bool, q = sk.isNone := ⟨_, rfl⟩
                      obtain ⟨q, hq⟩ : ∃ q : Bool, q = (decide (k < N4) && !bb) := ⟨_, rfl⟩
                      rw [← hbb] at hbad
                      go_upto_region 30 with fail
                      go_cut [125] (fun p wx => p = .bool q ∧ wr = wx)
                      case first =>
                        replace hbb := hide hbb
                        by_cases hlk : k < N4
                        · have hki : (k : Int) < (N4 : Int) := by omega
                          obtain rfl : q = !bb := by rw [hq]; simp [hlk]
                          clear hq
                          cases bb
                          · go_wp2_with fail
                            go_meet
                            exact ⟨rfl, rfl⟩
                          · go_wp2_with fail
                            go_meet
                            exact ⟨rfl, rfl⟩
                        · have hki : ¬ (k : Int) < (N4 : Int) := by omega
                          obtain rfl : q = false := by rw [hq]; simp [hlk]
                          clear hq
                          go_wp2_with fail
                          go_meet
                          exact ⟨rfl, rfl⟩
                      case rest =>
                        obtain ⟨rfl, rfl⟩ := hcut
                        cases q
                        rotate_left
                        · have hlk : k < N4 := by
                            have h := hq.symm
                            simp at h
                            exact h.1
                          have hki : (k : Int) < (N4 : Int) := by omega
                          have APk := hide (unhide AP k lk sk v wr (unhide H) hlk)
                          clear EN AP GW H hq hbb hbad
                          go_wp2_with fail
                          refine wp_region_noPanic ?_
                          refine wp_region_held_drew (S := fun _ => True) (by kernel_rfl) trivial (fun hHeld => ?_)
                          obtain ⟨y0, hy0⟩ : ∃ y, y = wr.drew := ⟨_, rfl⟩
                          have q0 : Hid (Tr wr y0 rb) := hide (by rw [hy0]; exact Tr.of_G rb (G.refl wr).drew)
                          have D0 : Hid (DdS w y0 rb sk) := hide (by rw [hy0]; exact (unhide hD).g (G.refl wr).drew)
                          rw [← hy0] at ⊢
                          clear hy0 hHeld
                          refine wpAnyH_take (i := 0) (v := .pointer (some ⟨gb, 4, none⟩)) rfl (by kernel_rfl) (by kernel_rfl) (by kernel_rfl) (fun _ _ _ h => h) (Or.inl ⟨by rfl, fun w _ => by go_simp⟩) trivial ?_
                          try simp only [Act.put, List.getElem_toArray, List.getElem_cons_zero, List.setIfInBounds_toArray, List.set_cons_zero, List.set_cons_succ]
                          refine wpAnyH_take (i := 2) (v := .pointer (some ⟨rb, 0, none⟩)) rfl (by kernel_rfl) (by kernel_rfl) (by kernel_rfl) (fun _ _ _ h => h) (Or.inl ⟨by rfl, fun w _ => by go_simp⟩) trivial ?_
                          try simp only [Act.put, List.getElem_toArray, List.getElem_cons_succ, List.getElem_cons_zero, List.setIfInBounds_toArray, List.set_cons_zero, List.set_cons_succ]
                          refine wpAnyH_ready (rs := [1, 3]) (by kernel_rfl) (by simp) ?_
                          refine AllReadyH.cons rfl (fun K hK => ?_) (AllReadyH.cons rfl (fun K hK => ?_) AllReadyH.nil)
                          · have hl := tr_cell (unhide q0) hv hne
                            go_simp
                            refine hK.out _ _ trivial (fun _ => ?_)
                            clear hK K
                            try simp only [Act.put, List.getElem_toArray, List.getElem_cons_succ, List.getElem_cons_zero, List.setIfInBounds_toArray, List.set_cons_zero, List.set_cons_succ]
                            clear hl
                            refine wpAnyH_ready (rs := [3]) (by kernel_rfl) (by simp) ?_
                            refine AllReadyH.cons rfl (fun K hK => ?_) AllReadyH.nil
                            go_simp
                            refine (unhide FN _ _ ((unhide hTw).trans (unhide q0)) (unhide D0)).mono ?_
                            rintro e x ⟨a0, a1, a2, a3, a4, a5, a, s2, rfl, hkp, ho, hr, hd, ht⟩
                            replace hkp := hide hkp
                            have q1 : Hid (Tr y0 x rb) := hide ht
                            replace ho := hide ho
                            replace hr := hide hr
                            replace hd := hide hd
                            clear ht
                            go_wp2_with fail
                            refine hK.out _ _ trivial (fun _ => ?_)
                            clear hK K
                            try simp only [Act.put, List.getElem_toArray, List.getElem_cons_succ, List.getElem_cons_zero, List.setIfInBounds_toArray, List.set_cons_zero, List.set_cons_succ]
                            refine wpAnyH_ready (rs := [4]) (by kernel_rfl) (by simp) ?_
                            refine AllReadyH.cons rfl (fun K hK => ?_) AllReadyH.nil
                            go_simp
                            refine hK.out _ _ trivial (fun _ => ?_)
                            clear hK K
                            try simp only [Act.put, List.getElem_toArray, List.getElem_cons_succ, List.getElem_cons_zero, List.setIfInBounds_toArray, List.set_cons_zero, List.set_cons_succ]
                            refine wpAnyH_ready (rs := [5]) (by kernel_rfl) (by simp) ?_
                            refine AllReadyH.cons rfl (fun K hK => ?_) AllReadyH.nil
                            obtain ⟨gn, cn, x3, hrun, hcv, hfv, HG⟩ := unhide APk x s2 a a0 a1 a2 a3 a4 a5 ((unhide q0).trans (unhide q1)) (unhide hd) (unhide hr) (unhide ho) (fun w2 kw => unhide hkp w2 ⟨fun b h1 h2 => kw.1 b (Nat.le_trans (unhide q0).size h1) h2, kw.2⟩)
                            replace HG := hide HG
                            refine step_app rfl (.tmp 129) (.tmp 132) 35 rfl _ _ rfl rfl _ _ hrun ?_
                            refine hK.out _ _ trivial (fun _ => ?_)
                            clear hK K
                            try simp only [Act.put, List.getElem_toArray, List.getElem_cons_succ, List.getElem_cons_zero, List.setIfInBounds_toArray, List.set_cons_zero, List.set_cons_succ]
                            clear hrun
                            refine wpAnyH_take (i := 6) (v := .pointer (some ⟨gb, 4, none⟩)) rfl (by kernel_rfl) (by kernel_rfl) (by kernel_rfl) (fun _ _ _ h => h) (Or.inl ⟨by rfl, fun w _ => by go_simp⟩) trivial ?_
                            try simp only [Act.put, List.getElem_toArray, List.getElem_cons_succ, List.getElem_cons_zero, List.setIfInBounds_toArray, List.set_cons_zero, List.set_cons_succ]
                            refine wpAnyH_ready (rs := [7]) (by kernel_rfl) (by simp) ?_
                            refine AllReadyH.cons rfl (fun K hK => ?_) AllReadyH.nil
                            go_simp
                            refine hK.out _ _ trivial (fun _ => ?_)
                            clear hK K
                            try simp only [Act.put, List.getElem_toArray, List.getElem_cons_succ, List.getElem_cons_zero, List.setIfInBounds_toArray, List.set_cons_zero, List.set_cons_succ]
                            refine wpAnyH_done (by kernel_rfl) (NoPanic.normal ?_) _
                            clear hcv hfv
                            go_wp2_with fail
                            go_roundw
                            case rel => exact ⟨k + 1, _, _, _, by omega, by go_num, HG⟩
                            case measure => simp [intOf]; omega
                          · go_simp
                            refine (unhide FN _ _ ((unhide hTw).trans (unhide q0)) (unhide D0)).mono ?_
                            rintro e x ⟨a0, a1, a2, a3, a4, a5, a, s2, rfl, hkp, ho, hr, hd, ht⟩
                            replace hkp := hide hkp
                            have q1 : Hid (Tr y0 x rb) := hide ht
                            replace ho := hide ho
                            replace hr := hide hr
                            replace hd := hide hd
                            clear ht
                            go_wp2_with fail
                            refine hK.out _ _ trivial (fun _ => ?_)
                            clear hK K
                            try simp only [Act.put, List.getElem_toArray, List.getElem_cons_succ, List.getElem_cons_zero, List.setIfInBounds_toArray, List.set_cons_zero, List.set_cons_succ]
                            refine wpAnyH_ready (rs := [1, 4]) (by kernel_rfl) (by simp) ?_
                            refine AllReadyH.cons rfl (fun K hK => ?_) (AllReadyH.cons rfl (fun K hK => ?_) AllReadyH.nil)
                            · have hl := tr_cell ((unhide q0).trans (unhide q1)) hv hne
                              go_simp
                              refine hK.out _ _ trivial (fun _ => ?_)
                              clear hK K
                              try simp only [Act.put, List.getElem_toArray, List.getElem_cons_succ, List.getElem_cons_zero, List.setIfInBounds_toArray, List.set_cons_zero, List.set_cons_succ]
                              clear hl
                              refine wpAnyH_ready (rs := [4]) (by kernel_rfl) (by simp) ?_
                              refine AllReadyH.cons rfl (fun K hK => ?_) AllReadyH.nil
                              go_simp
                              refine hK.out _ _ trivial (fun _ => ?_)
                              clear hK K
                              try simp only [Act.put, List.getElem_toArray, List.getElem_cons_succ, List.getElem_cons_zero, List.setIfInBounds_toArray, List.set_cons_zero, List.set_cons_succ]
                              refine wpAnyH_ready (rs := [5]) (by kernel_rfl) (by simp) ?_
                              refine AllReadyH.cons rfl (fun K hK => ?_) AllReadyH.nil
                              obtain ⟨gn, cn, x3, hrun, hcv, hfv, HG⟩ := unhide APk x s2 a a0 a1 a2 a3 a4 a5 ((unhide q0).trans (unhide q1)) (unhide hd) (unhide hr) (unhide ho) (fun w2 kw => unhide hkp w2 ⟨fun b h1 h2 => kw.1 b (Nat.le_trans (unhide q0).size h1) h2, kw.2⟩)
                              replace HG := hide HG
                              refine step_app rfl (.tmp 129) (.tmp 132) 35 rfl _ _ rfl rfl _ _ hrun ?_
                              refine hK.out _ _ trivial (fun _ => ?_)
                              clear hK K
                              try simp only [Act.put, List.getElem_toArray, List.getElem_cons_succ, List.getElem_cons_zero, List.setIfInBounds_toArray, List.set_cons_zero, List.set_cons_succ]
                              clear hrun
                              refine wpAnyH_take (i := 6) (v := .pointer (some ⟨gb, 4, none⟩)) rfl (by kernel_rfl) (by kernel_rfl) (by kernel_rfl) (fun _ _ _ h => h) (Or.inl ⟨by rfl, fun w _ => by go_simp⟩) trivial ?_
                              try simp only [Act.put, List.getElem_toArray, List.getElem_cons_succ, List.getElem_cons_zero, List.setIfInBounds_toArray, List.set_cons_zero, List.set_cons_succ]
                              refine wpAnyH_ready (rs := [7]) (by kernel_rfl) (by simp) ?_
                              refine AllReadyH.cons rfl (fun K hK => ?_) AllReadyH.nil
                              go_simp
                              refine hK.out _ _ trivial (fun _ => ?_)
                              clear hK K
                              try simp only [Act.put, List.getElem_toArray, List.getElem_cons_succ, List.getElem_cons_zero, List.setIfInBounds_toArray, List.set_cons_zero, List.set_cons_succ]
                              refine wpAnyH_done (by kernel_rfl) (NoPanic.normal ?_) _
                              clear hcv hfv
                              go_wp2_with fail
                              go_roundw
                              case rel => exact ⟨k + 1, _, _, _, by omega, by go_num, HG⟩
                              case measure => simp [intOf]; omega
                            · go_simp
                              refine hK.out _ _ trivial (fun _ => ?_)
                              clear hK K
                              try simp only [Act.put, List.getElem_toArray, List.getElem_cons_succ, List.getElem_cons_zero, List.setIfInBounds_toArray, List.set_cons_zero, List.set_cons_succ]
                              refine wpAnyH_ready (rs := [1]) (by kernel_rfl) (by simp) ?_
                              refine AllReadyH.cons rfl (fun K hK => ?_) AllReadyH.nil
                              have hl := tr_cell (((unhide q0).trans (unhide q1)).trans (Tr.of_G rb (G.alloc x (.cells #[.int .i64 a.p, .int .i64 a.c, .int .i64 a.s, .int .i64 a.r, .slice a0 a.ks.length a1, .slice a2 a.is.length a3, .slice a4 a.ms.length a5] 85)))) hv hne
                              go_simp
                              refine hK.out _ _ trivial (fun _ => ?_)
                              clear hK K
                              try simp only [Act.put, List.getElem_toArray, List.getElem_cons_succ, List.getElem_cons_zero, List.setIfInBounds_toArray, List.set_cons_zero, List.set_cons_succ]
                              clear hl
                              refine wpAnyH_ready (rs := [5]) (by kernel_rfl) (by simp) ?_
                              refine AllReadyH.cons rfl (fun K hK => ?_) AllReadyH.nil
                              obtain ⟨gn, cn, x3, hrun, hcv, hfv, HG⟩ := unhide APk x s2 a a0 a1 a2 a3 a4 a5 ((unhide q0).trans (unhide q1)) (unhide hd) (unhide hr) (unhide ho) (fun w2 kw => unhide hkp w2 ⟨fun b h1 h2 => kw.1 b (Nat.le_trans (unhide q0).size h1) h2, kw.2⟩)
                              replace HG := hide HG
                              refine step_app rfl (.tmp 129) (.tmp 132) 35 rfl _ _ rfl rfl _ _ hrun ?_
                              refine hK.out _ _ trivial (fun _ => ?_)
                              clear hK K
                              try simp only [Act.put, List.getElem_toArray, List.getElem_cons_succ, List.getElem_cons_zero, List.setIfInBounds_toArray, List.set_cons_zero, List.set_cons_succ]
                              clear hrun
                              refine wpAnyH_take (i := 6) (v := .pointer (some ⟨gb, 4, none⟩)) rfl (by kernel_rfl) (by kernel_rfl) (by kernel_rfl) (fun _ _ _ h => h) (Or.inl ⟨by rfl, fun w _ => by go_simp⟩) trivial ?_
                              try simp only [Act.put, List.getElem_toArray, List.getElem_cons_succ, List.getElem_cons_zero, List.setIfInBounds_toArray, List.set_cons_zero, List.set_cons_succ]
                              refine wpAnyH_ready (rs := [7]) (by kernel_rfl) (by simp) ?_
                              refine AllReadyH.cons rfl (fun K hK => ?_) AllReadyH.nil
                              go_simp
                              refine hK.out _ _ trivial (fun _ => ?_)
                              clear hK K
                              try simp only [Act.put, List.getElem_toArray, List.getElem_cons_succ, List.getElem_cons_zero, List.setIfInBounds_toArray, List.set_cons_zero, List.set_cons_succ]
                              refine wpAnyH_done (by kernel_rfl) (NoPanic.normal ?_) _
                              clear hcv hfv
                              go_wp2_with fail
                              go_roundw
                              case rel => exact ⟨k + 1, _, _, _, by omega, by go_num, HG⟩
                              case measure => simp [intOf]; omega
                        · have hor : sk = none ∨ k = N4 := by
                            cases sk with
                            | none => exact Or.inl rfl
                            | some r =>
                              have h := hq.symm
                              rw [hbb] at h
                              simp at h
                              exact Or.inr (by omega)
                          obtain ⟨qoD, qcD, rfl, XD, FX, KX, RRD, DX, OKD⟩ := unhide EN k lk sk v wr (unhide H) hk hor
                          replace XA := hide ((unhide XA).keep KX)
                          replace Xg1 := hide ((unhide Xg1).keep KX)
                          replace XB := hide ((unhide XB).keep KX)
                          replace XC := hide ((unhide XC).keep KX)
                          replace XD := hide XD
                          replace RRD := hide RRD
                          replace OKD := hide OKD
                          have FD := hide FX
                          have DD := hide DX
                          clear FX DX KX EN AP GW H hv hTw hD hk hor hq hbb hbad
                          obtain ⟨lD, hlD⟩ : ∃ l, l = lk := ⟨_, rfl⟩
                          subst hlD
                          obtain ⟨stD, hstD⟩ : ∃ l, l = sk := ⟨_, rfl⟩
                          subst hstD
                          obtain ⟨wdD, hwdD⟩ : ∃ y, y = wr := ⟨_, rfl⟩
                          subst hwdD
                          clear bb
                          go_wp2_with fail
                          refine (unhide I _ _ ((unhide FD).tr) (unhide DD)).mono ?_
                          rintro e xm1 ⟨vm1, sm1, rfl, om1, rm1, dm1, tm1⟩
                          replace om1 := hide om1
                          replace rm1 := hide rm1
                          replace dm1 := hide dm1
                          replace tm1 := hide tm1
                          have hc := ((unhide FD).tr' (unhide tm1)).at 5 _ rfl
                          have hf := ((unhide FD).tr' (unhide tm1)).fz 5 (by simp)
                          obtain ⟨ym1, hym1⟩ : ∃ y, y = xm1.setCell ⟨gb, 5, none⟩ (.int .i64 vm1) := ⟨_, rfl⟩
                          have Fm1 : Hid (BoxS W1 gb rb [.slice qoA lA.length qcA, .slice vg1o vg1.length vg1c, .slice qoB lB.length qcB, .slice qoC lC.length qcC, .slice qoD lD.length qcD, .int .i64 vm1] ym1) := hide (by rw [hym1]; exact ((unhide FD).tr' (unhide tm1)).set 5 (.int .i64 vm1) (by simp))
                          have Dm1 : Hid (DdS w ym1 rb sm1) := hide (by rw [hym1]; exact (unhide dm1).set hne)
                          have KX : Kx W1.heap.size gb none wdD ym1 := by rw [hym1]; exact ((unhide tm1).kx hrbW).trans (kx_set _)
                          replace XA := hide ((unhide XA).keep KX)
                          replace Xg1 := hide ((unhide Xg1).keep KX)
                          replace XB := hide ((unhide XB).keep KX)
                          replace XC := hide ((unhide XC).keep KX)
                          replace XD := hide ((unhide XD).keep KX)
                          go_upto_region 34 with fail
                          rw [← hym1]
                          clear hym1 hc hf KX FD DD tm1 dm1
                          have RM : Hid (Res pMd s (⟨lA, vg1, lB, lC, lD, vm1⟩ : Md) sm1) := hide (Res.map (fun x : List Sp × List Bool × List Int × List Ca × List Fn × Int => (⟨x.1, x.2.1, x.2.2.1, x.2.2.2.1, x.2.2.2.2.1, x.2.2.2.2.2⟩ : Md)) ((unhide RRA).seq ((unhide rg1).seq ((unhide RRB).seq ((unhide RRC).seq ((unhide RRD).seq (unhide rm1)))))))
                          have GX : Hid (G w ym1) := hide (tr_G (unhide gW) (unhide Fm1).tr hrb)
                          have e0 := (unhide Fm1).at 0 _ rfl
                          have z0 := (unhide Fm1).keep _ 0 _ (unhide zc0) hnr
                          have f0 := (unhide Fm1).keepf _ 0 (by have := unhide hsW; omega) (unhide zf0) hnr
                          have e1 := (unhide Fm1).at 1 _ rfl
                          have z1 := (unhide Fm1).keep _ 1 _ (unhide zc1) hnr
                          have f1 := (unhide Fm1).keepf _ 1 (by have := unhide hsW; omega) (unhide zf1) hnr
                          have e2 := (unhide Fm1).at 2 _ rfl
                          have z2 := (unhide Fm1).keep _ 2 _ (unhide zc2) hnr
                          have f2 := (unhide Fm1).keepf _ 2 (by have := unhide hsW; omega) (unhide zf2) hnr
                          have e3 := (unhide Fm1).at 3 _ rfl
                          have z3 := (unhide Fm1).keep _ 3 _ (unhide zc3) hnr
                          have f3 := (unhide Fm1).keepf _ 3 (by have := unhide hsW; omega) (unhide zf3) hnr
                          have e4 := (unhide Fm1).at 4 _ rfl
                          have z4 := (unhide Fm1).keep _ 4 _ (unhide zc4) hnr
                          have f4 := (unhide Fm1).keepf _ 4 (by have := unhide hsW; omega) (unhide zf4) hnr
                          have e5 := (unhide Fm1).at 5 _ rfl
                          have z5 := (unhide Fm1).keep _ 5 _ (unhide zc5) hnr
                          have f5 := (unhide Fm1).keepf _ 5 (by have := unhide hsW; omega) (unhide zf5) hnr
                          obtain ⟨rs, ⟨ro, rn, rc, hRC, _, _, _, hRow⟩, hrs⟩ := (unhide Dm1).cut
                          have hrl := hRow.1
                          obtain ⟨rc0, rc1, _, _⟩ := hRC
                          have NO : Hid ((sm1 = none ∨ rn ≠ 0) → decM zs = none) := hide (fun hor => by
                            unfold decM
                            rw [if_pos (unhide HP)]
                            have hR := unhide RM
                            rw [unhide hs0] at hR
                            cases sm1 with
                            | none => rw [hR _ rfl]
                            | some r =>
                              obtain ⟨z, e, hz⟩ := hR
                              obtain rfl := Option.some.inj e
                              rw [hz]
                              have hr0 : r ≠ [] := by
                                rcases hor with hor | hor
                                · cases hor
                                · intro e
                                  have := hrs r rfl
                                  rw [← this, e] at hrl
                                  simp at hrl
                                  omega
                              cases r with
                              | nil => exact absurd rfl hr0
                              | cons a l => rfl)
                          have YES : Hid (sm1.isNone = false → rn = 0 → decM zs = some (⟨lA, vg1, lB, lC, lD, vm1⟩ : Md)) := hide (fun h1 h2 => by
                            unfold decM
                            rw [if_pos (unhide HP)]
                            have hR := unhide RM
                            rw [unhide hs0] at hR
                            cases sm1 with
                            | none => simp at h1
                            | some r =>
                              obtain ⟨z, e, hz⟩ := hR
                              obtain rfl := Option.some.inj e
                              rw [hz]
                              have := hrs r rfl
                              have hr0 : r = [] := List.eq_nil_of_length_eq_zero (by rw [this, hrl, h2])
                              rw [hr0])
                          have KN := hide (fun x (g : G w x) (hor : sm1 = none ∨ rn ≠ 0) => ddec_none (zs := zs) g (unhide NO hor))
                          clear hRow Dm1 NO hrs RM hrl
                          obtain ⟨bb, hbb⟩ : ∃ q : Bool, q = sm1.isNone := ⟨_, rfl⟩
                          rw [← hbb] at rc1
                          cases bb
                          · by_cases hr0 : rn = 0
                            · subst hr0
                              have hY := unhide YES hbb.symm rfl
                              have hs := unhide hsW
                              have QC : CellsAt (setN ym1 w.heap.size 0 [.slice qoA lA.length qcA, .slice vg1o vg1.length vg1c, .slice qoB lB.length qcB, .slice qoC lC.length qcC, .slice qoD lD.length qcD, .int .i64 vm1]) w.heap.size 0 [.slice qoA lA.length qcA, .slice vg1o vg1.length vg1c, .slice qoB lB.length qcB, .slice qoC lC.length qcC, .slice qoD lD.length qcD, .int .i64 vm1] := fun j u hj => setN_in _ _ _ _ j u hj (fun i hi => by
                                rw [Nat.zero_add]
                                match i, hi with
                                | 0, _ => rw [z0]; rfl
                                | 1, _ => rw [z1]; rfl
                                | 2, _ => rw [z2]; rfl
                                | 3, _ => rw [z3]; rfl
                                | 4, _ => rw [z4]; rfl
                                | 5, _ => rw [z5]; rfl)
                              have KF : Kx W1.heap.size gb none ym1 (setN ym1 w.heap.size 0 [.slice qoA lA.length qcA, .slice vg1o vg1.length vg1c, .slice qoB lB.length qcB, .slice qoC lC.length qcC, .slice qoD lD.length qcD, .int .i64 vm1]) := ⟨fun b h1 h2 h3 _ => setN_heap _ _ _ _ _ (by omega), by rw [setN_size]; exact Nat.le_refl _⟩
                              have RB := md_rows KF (unhide XA) (unhide Xg1) (unhide XB) (unhide XC) (unhide XD)
                              have GS : G w (setN ym1 w.heap.size 0 [.slice qoA lA.length qcA, .slice vg1o vg1.length vg1c, .slice qoB lB.length qcB, .slice qoC lC.length qcC, .slice qoD lD.length qcD, .int .i64 vm1]) := setN_G (w := w) w.heap.size (Nat.le_refl _) _ ym1 0 (unhide GX)
                              have FI : DdecTo w (setN ym1 w.heap.size 0 [.slice qoA lA.length qcA, .slice vg1o vg1.length vg1c, .slice qoB lB.length qcB, .slice qoC lC.length qcC, .slice qoD lD.length qcD, .int .i64 vm1]) zs (.returned (.tuple #[.agg #[.slice qoA lA.length qcA, .slice vg1o vg1.length vg1c, .slice qoB lB.length qcB, .slice qoC lC.length qcC, .slice qoD lD.length qcD, .int .i64 vm1], .bool true])) := ⟨_, true, (⟨lA, vg1, lB, lC, lD, vm1⟩ : Md), rfl, ⟨_, _, _, _, _, _, _, _, _, _, rfl, RB.1, RB.2.1, RB.2.2.1, RB.2.2.2.1, RB.2.2.2.2⟩, ⟨⟨big_len RB.1.2.1, unhide OKA⟩, ⟨big_len RB.2.1.2.1, fun _ _ => trivial⟩, ⟨big_len RB.2.2.1.2.1, unhide OKB⟩, ⟨big_len RB.2.2.2.1.2.1, unhide OKC⟩, ⟨big_len RB.2.2.2.2.2.1, unhide OKD⟩, unhide om1⟩, GS, Or.inl ⟨hY, rfl⟩⟩
                              have eS : setN ym1 w.heap.size 0 [.slice qoA lA.length qcA, .slice vg1o vg1.length vg1c, .slice qoB lB.length qcB, .slice qoC lC.length qcC, .slice qoD lD.length qcD, .int .i64 vm1] = ((((((ym1.setCell ⟨w.heap.size, 0, none⟩ (.slice qoA lA.length qcA)).setCell ⟨w.heap.size, 1, none⟩ (.slice vg1o vg1.length vg1c)).setCell ⟨w.heap.size, 2, none⟩ (.slice qoB lB.length qcB)).setCell ⟨w.heap.size, 3, none⟩ (.slice qoC lC.length qcC)).setCell ⟨w.heap.size, 4, none⟩ (.slice qoD lD.length qcD)).setCell ⟨w.heap.size, 5, none⟩ (.int .i64 vm1)) := rfl
                              rw [eS] at QC FI
                              clear eS KF RB GS hY hs
                              have cc0 : ((((((ym1.setCell ⟨w.heap.size, 0, none⟩ (.slice qoA lA.length qcA)).setCell ⟨w.heap.size, 1, none⟩ (.slice vg1o vg1.length vg1c)).setCell ⟨w.heap.size, 2, none⟩ (.slice qoB lB.length qcB)).setCell ⟨w.heap.size, 3, none⟩ (.slice qoC lC.length qcC)).setCell ⟨w.heap.size, 4, none⟩ (.slice qoD lD.length qcD)).setCell ⟨w.heap.size, 5, none⟩ (.int .i64 vm1)).cell? ⟨w.heap.size, 0, none⟩ = some (.slice qoA lA.length qcA) := QC 0 _ rfl
                              have cc1 : ((((((ym1.setCell ⟨w.heap.size, 0, none⟩ (.slice qoA lA.length qcA)).setCell ⟨w.heap.size, 1, none⟩ (.slice vg1o vg1.length vg1c)).setCell ⟨w.heap.size, 2, none⟩ (.slice qoB lB.length qcB)).setCell ⟨w.heap.size, 3, none⟩ (.slice qoC lC.length qcC)).setCell ⟨w.heap.size, 4, none⟩ (.slice qoD lD.length qcD)).setCell ⟨w.heap.size, 5, none⟩ (.int .i64 vm1)).cell? ⟨w.heap.size, 1, none⟩ = some (.slice vg1o vg1.length vg1c) := QC 1 _ rfl
                              have cc2 : ((((((ym1.setCell ⟨w.heap.size, 0, none⟩ (.slice qoA lA.length qcA)).setCell ⟨w.heap.size, 1, none⟩ (.slice vg1o vg1.length vg1c)).setCell ⟨w.heap.size, 2, none⟩ (.slice qoB lB.length qcB)).setCell ⟨w.heap.size, 3, none⟩ (.slice qoC lC.length qcC)).setCell ⟨w.heap.size, 4, none⟩ (.slice qoD lD.length qcD)).setCell ⟨w.heap.size, 5, none⟩ (.int .i64 vm1)).cell? ⟨w.heap.size, 2, none⟩ = some (.slice qoB lB.length qcB) := QC 2 _ rfl
                              have cc3 : ((((((ym1.setCell ⟨w.heap.size, 0, none⟩ (.slice qoA lA.length qcA)).setCell ⟨w.heap.size, 1, none⟩ (.slice vg1o vg1.length vg1c)).setCell ⟨w.heap.size, 2, none⟩ (.slice qoB lB.length qcB)).setCell ⟨w.heap.size, 3, none⟩ (.slice qoC lC.length qcC)).setCell ⟨w.heap.size, 4, none⟩ (.slice qoD lD.length qcD)).setCell ⟨w.heap.size, 5, none⟩ (.int .i64 vm1)).cell? ⟨w.heap.size, 3, none⟩ = some (.slice qoC lC.length qcC) := QC 3 _ rfl
                              have cc4 : ((((((ym1.setCell ⟨w.heap.size, 0, none⟩ (.slice qoA lA.length qcA)).setCell ⟨w.heap.size, 1, none⟩ (.slice vg1o vg1.length vg1c)).setCell ⟨w.heap.size, 2, none⟩ (.slice qoB lB.length qcB)).setCell ⟨w.heap.size, 3, none⟩ (.slice qoC lC.length qcC)).setCell ⟨w.heap.size, 4, none⟩ (.slice qoD lD.length qcD)).setCell ⟨w.heap.size, 5, none⟩ (.int .i64 vm1)).cell? ⟨w.heap.size, 4, none⟩ = some (.slice qoD lD.length qcD) := QC 4 _ rfl
                              have cc5 : ((((((ym1.setCell ⟨w.heap.size, 0, none⟩ (.slice qoA lA.length qcA)).setCell ⟨w.heap.size, 1, none⟩ (.slice vg1o vg1.length vg1c)).setCell ⟨w.heap.size, 2, none⟩ (.slice qoB lB.length qcB)).setCell ⟨w.heap.size, 3, none⟩ (.slice qoC lC.length qcC)).setCell ⟨w.heap.size, 4, none⟩ (.slice qoD lD.length qcD)).setCell ⟨w.heap.size, 5, none⟩ (.int .i64 vm1)).cell? ⟨w.heap.size, 5, none⟩ = some (.int .i64 vm1) := QC 5 _ rfl
                              replace FI := hide FI
                              clear QC XA XB XC XD Xg1 Fm1 RRA RRB RRC RRD OKA OKB OKC OKD GX KN YES hbb
                              go_wp2_with fail
                              refine bodyPost_ret (by simp [results, Tryd.results13, go_sem, cc0, cc1, cc2, cc3, cc4, cc5]; try rfl) rfl ?_
                              exact unhide FI
                            · have hrn : ((rn : Int) == 0) = false := beq_eq_false_iff_ne.2 (by omega)
                              have FI := hide (unhide KN ((((((ym1.setCell ⟨w.heap.size, 0, none⟩ (.slice none 0 0)).setCell ⟨w.heap.size, 1, none⟩ (.slice none 0 0)).setCell ⟨w.heap.size, 2, none⟩ (.slice none 0 0)).setCell ⟨w.heap.size, 3, none⟩ (.slice none 0 0)).setCell ⟨w.heap.size, 4, none⟩ (.slice none 0 0)).setCell ⟨w.heap.size, 5, none⟩ (.int .i64 0)) (g_zero (unhide GX)) (Or.inr hr0))
                              have gz : G w ym1 := unhide GX
                              clear XA XB XC XD Xg1 Fm1 RRA RRB RRC RRD OKA OKB OKC OKD GX KN YES hbb
                              go_wp2_with fail
                              refine bodyPost_ret (by simp [results, Tryd.results13, go_sem, cell_same, z0, z1, z2, z3, z4, z5]; try rfl) rfl ?_
                              exact unhide FI
                          · have hsm : sm1 = none := by
                              cases sm1 with
                              | none => rfl
                              | some r => simp at hbb
                            have FI := hide (unhide KN ((((((ym1.setCell ⟨w.heap.size, 0, none⟩ (.slice none 0 0)).setCell ⟨w.heap.size, 1, none⟩ (.slice none 0 0)).setCell ⟨w.heap.size, 2, none⟩ (.slice none 0 0)).setCell ⟨w.heap.size, 3, none⟩ (.slice none 0 0)).setCell ⟨w.heap.size, 4, none⟩ (.slice none 0 0)).setCell ⟨w.heap.size, 5, none⟩ (.int .i64 0)) (g_zero (unhide GX)) (Or.inl hsm))
                            have gz : G w ym1 := unhide GX
                            clear XA XB XC XD Xg1 Fm1 RRA RRB RRC RRD OKA OKB OKC OKD GX KN YES hbb
                            go_wp2_with fail
                            refine bodyPost_ret (by simp [results, Tryd.results13, go_sem, cell_same, z0, z1, z2, z3, z4, z5]; try rfl) rfl ?_
                            exact unhide FI
theorem ddec (w : World) (ao : Option Addr) (n c : Nat) (zs : List Int) (h : Row w ao n zs) (hnc : n ≤ c) (hn : n ≤ 10000000) :
    Calls Tryd.prog 13 #[.slice ao n c] w fun e w' => DdecTo w w' zs e := by
  by_cases h4 : n < 4
  · exact ddec_few w ao n c zs h h4
  · rcases h.2.2 with h0 | ⟨b, off, rfl, _⟩
    · omega
    · by_cases hp : zs.take 4 = fst4
      · exact ddec_yes w b off n c zs h (by omega) hnc hn hp
      · exact ddec_no w b off n c zs h (by omega) hnc hp
end Go.Proofs.YtdekhnfncecacaaDoor
