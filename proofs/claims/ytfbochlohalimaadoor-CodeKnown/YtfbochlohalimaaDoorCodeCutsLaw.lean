/- CodeCuts of gantlinelaw9: for every module, int and bytes the law answers true; nothing that was there is turned. -/
import Derived.Test.YtfbochlohalimaaDoorCodeFrame
namespace Go.Proofs.YtfbochlohalimaaDoor
set_option maxRecDepth 100000
open Go.RowKit Go.Maps Go.ChangeShapes Go.WideShapes Go.ChangeAt Go.Deep

set_option maxHeartbeats 1000000 in
/-- Where the law asks nothing. -/
theorem cuts_early (v0 : Value) (m : Md) (cut : Int) (ao : Option Addr) (n c : Nat) (W : World) (ht : Tab9 W) (hM : ModAt W v0 m) (hq : n = 0 ∨ 20 < n) :
    Calls Tryd.prog 8 #[v0, .int .i64 cut, .slice ao n c] W fun e w' => e = .returned (.bool true) ∧ G W w' := by
  obtain ⟨so, sc, go, gc, co, cc, xo, xc, fo, fc, rfl, r1, r2, r3, r4, r5⟩ := hM
  have hM : ModAt W (.agg #[.slice so m.sh.length sc, .slice go m.gl.length gc, .slice co m.co.length cc, .slice xo m.ca.length xc, .slice fo m.fn.length fc, .int .i64 m.main]) m := ⟨so, sc, go, gc, co, cc, xo, xc, fo, fc, rfl, r1, r2, r3, r4, r5⟩
  have AW := hide (fun x (g : G W x) => awake_any x (ht.g g))
  have BG := hide (fun x (g : G W x) => big_any x _ m (hM.g g))
  clear hM r1 r2 r3 r4 r5 ht
  go_enter Tryd.func8, Tryd.ntmps8
  go_wp2_with fail
  refine (unhide AW _ ((G.refl W).more _)).mono ?_
  rintro e w1 ⟨rfl, g1⟩
  have c0 := g1.cell (x := ⟨W.heap.size, 0, none⟩) (v := .slice so m.sh.length sc) (by simp [go_sem])
  have c1 := g1.cell (x := ⟨W.heap.size, 1, none⟩) (v := .slice go m.gl.length gc) (by simp [go_sem])
  have c2 := g1.cell (x := ⟨W.heap.size, 2, none⟩) (v := .slice co m.co.length cc) (by simp [go_sem])
  have c3 := g1.cell (x := ⟨W.heap.size, 3, none⟩) (v := .slice xo m.ca.length xc) (by simp [go_sem])
  have c4 := g1.cell (x := ⟨W.heap.size, 4, none⟩) (v := .slice fo m.fn.length fc) (by simp [go_sem])
  have c5 := g1.cell (x := ⟨W.heap.size, 5, none⟩) (v := .int .i64 m.main) (by simp [go_sem])
  have G1 := hide (((G.refl W).more _).trans g1)
  clear AW g1
  go_wp2_with fail
  refine (unhide BG w1 (unhide G1)).mono ?_
  rintro e w2 ⟨q, rfl, _, g2⟩
  have G2 := hide ((unhide G1).trans g2)
  clear BG g2 G1
  rcases hq with hq | hq
  · subst hq
    cases q
    · go_wp2_with fail
      go_ret
      exact ⟨rfl, unhide G2⟩
    · go_wp2_with fail
      go_ret
      exact ⟨rfl, unhide G2⟩
  · have hi : (20 : Int) < (n : Int) := by omega
    have h0 : ((n : Int) == 0) = false := beq_eq_false_iff_ne.2 (by omega)
    cases q
    · go_wp2_with fail
      go_ret
      exact ⟨rfl, unhide G2⟩
    · go_wp2_with fail
      go_ret
      exact ⟨rfl, unhide G2⟩

theorem DecTo.none {w w' : World} {zs : List Int} {e : Ending} (h : DecTo w w' zs e) (hd : decM zs = none) : ∃ (o0 : Option Addr) (k0 : Nat) (o1 : Option Addr) (k1 : Nat) (o2 : Option Addr) (k2 : Nat) (o3 : Option Addr) (k3 : Nat) (o4 : Option Addr) (k4 : Nat), e = .returned (.tuple #[.agg #[.slice o0 0 k0, .slice o1 0 k1, .slice o2 0 k2, .slice o3 0 k3, .slice o4 0 k4, .int .i64 0], .int .i64 3]) ∧ G w w' := by
  obtain ⟨v, er, m, rfl, hM, _, hg, ⟨h1, _⟩ | ⟨_, rfl, rfl⟩⟩ := h
  · rw [hd] at h1; cases h1
  · obtain ⟨so, sc, go, gc, co, cc, xo, xc, fo, fc, rfl, _⟩ := hM
    exact ⟨so, sc, go, gc, co, cc, xo, xc, fo, fc, rfl, hg⟩

set_option maxHeartbeats 2000000 in
theorem cuts_main (v0 : Value) (m : Md) (cut : Int) (ao : Option Addr) (n c : Nat) (l : List Int) (W : World) (ht : Tab9 W) (hM : ModAt W v0 m) (oM : oMd m) (hr : InRow W ao n c l) (hn0 : 0 < n) (hn20 : n ≤ 20) :
    Calls Tryd.prog 8 #[v0, .int .i64 cut, .slice ao n c] W fun e w' => e = .returned (.bool true) ∧ G W w' := by
  obtain ⟨so, sc, go, gc, co, cc, xo, xc, fo, fc, rfl, r1, r2, r3, r4, r5⟩ := hM
  have hM : ModAt W (.agg #[.slice so m.sh.length sc, .slice go m.gl.length gc, .slice co m.co.length cc, .slice xo m.ca.length xc, .slice fo m.fn.length fc, .int .i64 m.main]) m := ⟨so, sc, go, gc, co, cc, xo, xc, fo, fc, rfl, r1, r2, r3, r4, r5⟩
  have AW := hide (fun x (g : G W x) => awake_any x (ht.g g))
  have BG := hide (fun x (g : G W x) => big_any x _ m (hM.g g))
  have EN := hide (fun x (g : G W x) (hs : smMd m) => encode_any x _ m (hM.g g) oM (Nat.le_trans (encM_le m hs) (by decide)))
  have LE := hide (encM_le m)
  have HB := hide (enc_byt m oM)
  have hl : l ≠ [] := fun e => by have := hr.1.1; rw [e] at this; simp at this; omega
  have D1 := hide (dec_more m oM l hl)
  have D2 := hide (dec_cut m oM)
  have HR := hide hr.1
  have HC := hide hr.2.2
  generalize encM m = zs at *
  clear hM r1 r2 r3 r4 r5 ht hr oM hl
  go_enter Tryd.func8, Tryd.ntmps8
  go_wp2_with fail
  refine (unhide AW _ ((G.refl W).more _)).mono ?_
  rintro e w1 ⟨rfl, g1⟩
  have c0 := g1.cell (x := ⟨W.heap.size, 0, none⟩) (v := .slice so m.sh.length sc) (by simp [go_sem])
  have c1 := g1.cell (x := ⟨W.heap.size, 1, none⟩) (v := .slice go m.gl.length gc) (by simp [go_sem])
  have c2 := g1.cell (x := ⟨W.heap.size, 2, none⟩) (v := .slice co m.co.length cc) (by simp [go_sem])
  have c3 := g1.cell (x := ⟨W.heap.size, 3, none⟩) (v := .slice xo m.ca.length xc) (by simp [go_sem])
  have c4 := g1.cell (x := ⟨W.heap.size, 4, none⟩) (v := .slice fo m.fn.length fc) (by simp [go_sem])
  have c5 := g1.cell (x := ⟨W.heap.size, 5, none⟩) (v := .int .i64 m.main) (by simp [go_sem])
  have G1 := hide (((G.refl W).more _).trans g1)
  clear AW g1
  go_wp2_with fail
  refine (unhide BG w1 (unhide G1)).mono ?_
  rintro e w2 ⟨q, rfl, hq, g2⟩
  have d0 := g2.cell c0
  have d1 := g2.cell c1
  have d2 := g2.cell c2
  have d3 := g2.cell c3
  have d4 := g2.cell c4
  have d5 := g2.cell c5
  have G2 := hide ((unhide G1).trans g2)
  have hi : ¬ (20 : Int) < (n : Int) := by omega
  have h0 : ((n : Int) == 0) = false := beq_eq_false_iff_ne.2 (by omega)
  clear BG g2 G1 c0 c1 c2 c3 c4 c5
  cases q
  rotate_left
  · go_wp2_with fail
    go_ret
    exact ⟨rfl, unhide G2⟩
  have hs := hq rfl
  have E := hide (unhide EN w2 (unhide G2) hs)
  have hL : zs.length ≤ 1000000 := unhide LE hs
  clear EN hq hs LE
  go_wp2_with fail
  refine (unhide E).mono ?_
  rintro e w3 ⟨g, cap, rfl, hO, g3⟩
  have hcap := hO.le
  have hrow := hO.row (unhide HB)
  have G3 := hide ((unhide G2).trans g3)
  have R3 := hide hrow
  have M3 := hide ((unhide HR).later (unhide G3))
  obtain ⟨L, hLL⟩ : ∃ L, L = zs.length := ⟨_, rfl⟩
  rw [← hLL] at hL hcap R3 D2
  have HLL := hide hLL
  rw [← hLL]
  clear E hO hrow g3 G2 d0 d1 d2 d3 d4 d5 hLL HR
  go_wp2_with (at_builtin; refine wpl_append_row rfl (.tmp 29) (.tmp 30) rfl w3.heap.size _ 0 [] rfl (own_empty w3 w3.heap.size (Nat.le_refl _)) (some ⟨g, 0, none⟩) L cap zs rfl (fun e => by cases e) ((unhide R3).later ((G.refl w3).more _)) (by omega) (by simp) ?_)
  intro v4 w4 hown4 hgrow4 hne4
  have b4 : Below w3.heap.size w3 w4 := Below.grown ((Below.refl _ _).alloc (Nat.le_refl _) _) hgrow4 (by simp) (fun q hq => by simp [Value.ownBlock] at hq; omega)
  have BL4 := hide (own_block hown4)
  have B4 := hide b4
  have N4 : Hid (v4 ≠ .slice none 0 0) := hide (by first | exact hne4 | exact hne4 (by simp))
  have hs4 := b4.size
  have hown4b : w4.ownsRow w3.heap.size 5 1 v4 L (zs.map (Value.int .u8)) := by simpa using hown4
  clear hgrow4 hne4 b4 hown4
  go_wp2_with (at_builtin; refine wpl_append_row rfl (.tmp 31) (.tmp 32) rfl w3.heap.size v4 L (zs.map (Value.int .u8)) rfl hown4b ao n c l rfl (unhide HC) ((unhide M3).later (unhide B4)) (by omega) (by omega) ?_)
  intro v5 w5 hown5 hgrow5 hne5
  have b5 : Below w3.heap.size w3 w5 := Below.grown (unhide B4) hgrow5 (by omega) (unhide BL4)
  have hown6 : w5.ownsRow w3.heap.size 5 1 v5 (L + n) ((zs ++ l).map (Value.int .u8)) := by simpa using hown5
  obtain ⟨g5, cap5, rfl, _, hz5, hle5, hc5⟩ := own_form hown6 (hne5 (unhide N4))
  have R5 : Row w5 (some ⟨g5, 0, none⟩) (L + n) (zs ++ l) := ⟨hz5, Byt.app (unhide HB) (unhide M3).2.1, Or.inr ⟨g5, 0, rfl, fun i hi => by rw [Nat.zero_add]; exact hc5 i hi⟩⟩
  have D := hide (decode_any w5 (some ⟨g5, 0, none⟩) (L + n) cap5 (zs ++ l) R5 hle5 (by omega))
  have G5 := hide ((unhide G3).trans b5)
  have R35 := hide ((unhide R3).later b5)
  clear hown4b hown5 hown6 hgrow5 hne5 b5 R5 R3 M3 B4 BL4 N4 hc5 hz5 G3 HC
  go_wp2_with fail
  refine (unhide D).mono ?_
  rintro e w6 hd
  obtain ⟨x0, x1, x2, x3, x4, x5, x6, x7, x8, x9, rfl, g6⟩ := hd.none (unhide D1)
  have G6 := hide ((unhide G5).trans g6)
  have R6 := hide ((unhide R35).later g6)
  clear D hd D1 g6 G5 R35
  by_cases hneg : cut < 0
  · go_wp2_with fail
    go_ret
    exact ⟨rfl, (unhide G6).more _⟩
  · obtain ⟨k, rfl⟩ := Int.eq_ofNat_of_zero_le (show 0 ≤ cut by omega)
    by_cases hbig : L ≤ k
    · have hbi : (L : Int) ≤ (k : Int) := by omega
      go_wp2_with fail
      go_ret
      exact ⟨rfl, (unhide G6).more _⟩
    · have hbi : ¬ (L : Int) ≤ (k : Int) := by omega
      have hkc : (k : Int) ≤ (cap : Int) := by omega
      have D := hide (fun x (gx : G w6 x) => (decode_any x (some ⟨g, 0, none⟩) k cap (zs.take k) (((unhide R6).later gx).take (by omega)) (by omega) (by omega)).mono (fun e w' h => DecTo.none h (unhide D2 k (by omega))))
      clear D2 R6
      go_wp2_with fail
      refine (unhide D _ ((G.refl w6).more _)).mono ?_
      rintro e w7 ⟨y0, y1, y2, y3, y4, y5, y6, y7, y8, y9, rfl, g7⟩
      have G7 := hide ((unhide G6).trans (((G.refl w6).more _).trans g7))
      clear D g7 G6
      go_wp2_with fail
      go_ret
      exact ⟨rfl, (unhide G7).more _⟩
theorem walk_CodeCuts (v0 : Value) (m : Md) (cut : Int) (ao : Option Addr) (n c : Nat) (l : List Int) (W : World) (ht : Tab9 W) (hM : ModAt W v0 m) (oM : oMd m) (_ : oI cut) (hr : InRow W ao n c l) :
    Calls Tryd.prog 8 #[v0, .int .i64 cut, .slice ao n c] W fun e w' => e = .returned (.bool true) ∧ G W w' := by
  by_cases h : n = 0 ∨ 20 < n
  · exact cuts_early v0 m cut ao n c W ht hM h
  · exact cuts_main v0 m cut ao n c l W ht hM oM hr (by omega) (by omega)

set_option maxRecDepth 100000 in
theorem lifted_CodeCuts (os : Os) (started : os.Started) (H : Type) (enc : TypeId × Value → H) :
    ReturnsInHanded {} Tryd.checked os 8 .any (fun w args => (Rows.codeCutsSpec.pre enc Tryd.prog Tryd.f8 [] false w args ∧ laidMetH Tryd.prog laid9 w) ∧ sizedMet enc Tryd.prog Tryd.f8 (OpenSpec.ofChange Rows.codeCutsSpec) false w args)
      (Rows.codeCutsSpec.post enc Tryd.prog Tryd.f8 false true false false) := by
  refine returnsInHanded_of_change_and (C := Tryd.checked) (X := fun w _ => laidMetH Tryd.prog laid9 w) (fun _ _ _ hh h => h.of_heap hh) own started (by kernel_rfl) Tryd.func8
    (ChangeSpec.witness_shaped (enc := enc) (C := Tryd.checked) (os := os) (X := fun w _ => laidMetH Tryd.prog laid9 w) false (World.doorLaid Tryd.prog 400 os) #[.agg #[.slice none 0 0, .slice none 0 0, .slice none 0 0, .slice none 0 0, .slice none 0 0, .int .i64 0], .int .i64 0, .slice none 0 0] 8 rfl (World.shaped_of_RefB (by kernel_rfl) (by kernel_rfl)) (by kernel_rfl) (by kernel_rfl) (by kernel_rfl) (door_met os _)) ?_
  intro W base args ds gs before hval0 hW _ _ hL _
  have hval : ∀ (j : Nat) t v, Tryd.f8.params[j]? = some t → args[j]? = some v → Value.okWide Tryd.prog W .any base t v := hval0
  have hW' := hW
  obtain ⟨p, q, hA0, hV, rfl, hfz, hnd⟩ := hW
  have hA : DataW.TrodAll enc Tryd.prog W 0 (fun _ => true) true Tryd.f8.params.toList args.toList ds p := hA0
  rw [Tryd.params8] at hA hval
  obtain ⟨v0, vs0, d0, ds0, p0, q0, hargs, rfl, rfl, h0, r0⟩ := trodAll_cons hA
  obtain ⟨v1, vs1, d1, ds1, p1, q1, rfl, rfl, rfl, h1, r1⟩ := trodAll_cons r0
  obtain ⟨v2, vs2, d2, ds2, p2, q2, rfl, rfl, rfl, h2, r2⟩ := trodAll_cons r1
  obtain ⟨rfl, rfl, rfl⟩ := trodAll_nil r2
  obtain rfl : args = #[v0, v1, v2] := by cases args; simp_all
  obtain ⟨rfl, rfl⟩ := trodVars_none hV
  have k0 := h0
  have lt0 : ∀ x ∈ p0, x.block < W.heap.size := by obtain ⟨m, hm⟩ := k0; exact DataW.trod_lt m _ _ _ hm
  obtain ⟨m0, hM0, oM0⟩ := open_module (hval 0 29 v0 rfl rfl) h0
  have k1 := h1
  have lt1 : ∀ x ∈ p1, x.block < W.heap.size := by obtain ⟨m, hm⟩ := k1; exact DataW.trod_lt m _ _ _ hm
  obtain ⟨a1, rfl, rfl, rfl, w1⟩ := open_int Tryd.underlying3 (hval 1 3 v1 rfl rfl) h1
  have k2 := h2
  have lt2 : ∀ x ∈ p2, x.block < W.heap.size := by obtain ⟨m, hm⟩ := k2; exact DataW.trod_lt m _ _ _ hm
  obtain ⟨a2, n2, c2, l2, rfl, w2⟩ := open_bytes (hval 2 33 v2 rfl rfl) h2
  clear hA0 hval0
  refine (walk_CodeCuts v0 m0 a1 a2 n2 c2 l2 W (tab_of_laid hL) hM0 oM0 (oI_wf w1) w2).mono fun e W' ⟨he, hg⟩ => ?_
  subst he
  exact ⟨_, rfl, _, _, _, [], _, [], hW', trodAll_mk1 (shut_bool Tryd.underlying4 _), (trodAll_cons_mk (Below.trod laidOut (by kernel_rfl) (of_decide_eq_true (by kernel_rfl)) k0 hg lt0) (trodAll_cons_mk (Below.trod laidOut (by kernel_rfl) (of_decide_eq_true (by kernel_rfl)) k1 hg lt1) (trodAll_cons_mk (Below.trod laidOut (by kernel_rfl) (of_decide_eq_true (by kernel_rfl)) k2 hg lt2) trodAll_mk0))), rfl, hg.frame _, fun h => by cases h⟩

theorem row_CodeCuts : Rows.CodeCutsSaid :=
  OpenClaim.holds_of_wide 8 Tryd.f8 rfl rfl rfl rfl rfl rfl rfl ⟨rfl, rfl, rfl, rfl, rfl⟩ rfl rfl rfl rfl rfl (by kernel_rfl) Tryd.func8 (by kernel_rfl)
    (of_decide_eq_true (by kernel_rfl)) (by unfold Func.isWrapper; first | (rw [if_pos (by decide +kernel)]; kernel_rfl) | (rw [if_neg (by decide +kernel)]; exact ⟨rfl, rfl⟩))
    (fun os started H enc _ => lifted_CodeCuts os started H enc)

/-- THE STATEMENT. -/
theorem card_CodeCuts : Rows.CodeCutsCardSaid :=
  Claim7.holds_tied_plain_at .later [] [.data, .data, .data, .data] true (true, "29c90ad79e1b56b8cd93b8f687e923f7b81515e28f39da1e7c5e0c639d62ffd3") false
    row_CodeCuts (fun _ h => by cases h) (by kernel_rfl) (fun _ h => by cases h) codeCuts_row_tie rfl ⟨rfl, rfl⟩ (by kernel_rfl) rfl
    (fun f fn hf hfn => by
      obtain rfl : f = 8 := Option.some.inj ((show Tryd.prog.funcNamed "gantline/gantlinelaw9.CodeCuts" = some 8 by kernel_rfl).symm.trans hf) |>.symm
      obtain rfl : fn = Tryd.f8 := (Option.some.inj (Tryd.func8.symm.trans hfn)).symm
      exact ⟨by kernel_rfl, fun j t ht => by
        rw [Tryd.params8] at ht
        have hm : t ∈ [29, 3, 33] := by simpa using Array.mem_of_getElem? ht
        have hall : ([29, 3, 33].all fun u => !Tryd.prog.wantsStandIn u) = true := by kernel_rfl
        exact (show Tryd.prog.wantsStandIn t = false by simpa using List.all_eq_true.1 hall t hm)⟩)
    (by kernel_rfl)
#print axioms card_CodeCuts
end Go.Proofs.YtfbochlohalimaaDoor
