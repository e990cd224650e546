/- LexCuts of gantlinelaw19: any text is cut into words, or fails, just where the document's own Cut says. No condition (texts of more than 4000 bytes answer true by the statement itself). -/
import Derived.Test.YtodfcmmdnobdhaaDoorLexBase
import Derived.Test.YtodfcmmdnobdhaaDoorLexRefC
import Derived.Test.YtodfcmmdnobdhaaDoorLexBtP
namespace Go.Proofs.YtodfcmmdnobdhaaDoor
set_option maxRecDepth 100000
open Go.RowKit Go.Maps Go.ChangeShapes Go.WideShapes Go.ChangeAt Go.Deep

theorem cut_ne (l : List UInt8) (o : Nat) (h : (cutL l o).2 = none) : (cutL l o).1 ≠ [] := by
  by_cases h1 : gap l < l.length
  · by_cases h2 : (firstW (l.drop (gap l))).2 = 0
    · rw [cutL_bad h1 h2] at h; cases h
    · rw [cutL_word h1 h2]; simp
  · rw [cutL_end (by have := gap_le l; omega)]; simp

set_option maxHeartbeats 4000000 in
theorem cuts_core (s : ByteArray) (W : World) (hE : EvAt W) : Calls Tryd.prog 4 #[.string s] W fun e w' => e = .returned (.bool true) ∧ G W w' := by
  have AW := hide (awake_any W hE)
  go_enter Tryd.func4, Tryd.ntmps4
  go_wp2_with fail
  refine (unhide AW).mono ?_
  rintro e w1 ⟨rfl, g1⟩
  have hE1 := hide (hE.g g1)
  replace g1 := hide g1
  clear AW hE
  by_cases hbig : (4000 : Int) < (s.size : Int)
  · go_wp2_with fail
    go_ret
    exact ⟨rfl, unhide g1⟩
  have C1 := hide (lexcut_any s w1 (by omega) (unhide hE1))
  have C2 := hide (fun wx => rcut_any s wx (by omega))
  have NE := hide (cut_ne s.data.toList 0)
  have NB := hide (fun h => (cut_facts s.data.toList 0 h).2.2.1)
  rw [← Lib.size_eq] at NB
  generalize cutL s.data.toList 0 = R at C1 C2 NE NB
  clear hE1
  go_wp2_with fail
  refine (unhide C1).mono ?_
  intro e w2 hC
  obtain ⟨ws, rb⟩ := R
  cases rb with
  | some o =>
    obtain ⟨rfl, g2⟩ := hC.bad
    replace g2 := hide (G.trans (unhide g1) g2)
    clear hC C1
    go_wp2_with fail
    refine (unhide C2 w2).mono ?_
    rintro e w3 ⟨g3, hD⟩
    rcases hD with ⟨o', ho, rfl⟩ | ⟨h, _⟩
    · have ho2 : o = o' := Option.some.inj ho
      subst ho2
      replace g3 := hide (G.trans (unhide g2) g3)
      have h0 : (0 : Int) ≤ (o : Int) := Int.natCast_nonneg o
      clear ho C2
      go_wp2_with fail
      go_ret
      exact ⟨by first | rfl | simp, unhide g3⟩
    · cases h
  | none =>
    have hws : ws ≠ [] := unhide NE rfl
    obtain ⟨g, cap, rfl, g2, hcap, _, hgl, hOw, hcell⟩ := hC.ok hws
    obtain ⟨N, hN⟩ : ∃ N, N = ws.length := ⟨_, rfl⟩
    have hNb0 : ws.length ≤ s.size + 1 := unhide NB rfl
    have hNb : N ≤ 4001 := by omega
    have gG := hide (G.trans (unhide g1) g2)
    have D2 : Hid (Calls Tryd.prog 10 #[.string s] w2 fun e w3 => ∃ g' cap', e = .returned (.tuple #[.slice (some ⟨g', 0, none⟩) N cap', .int .i64 (-1)]) ∧ N ≤ cap' ∧ G w2 w3 ∧
        ∀ j, j < N → ∃ (kd o : Nat) (X : ByteArray), ∀ x, G w3 x → x.cell? ⟨g', j * 3, none⟩ = some (.int .i64 (kd : Int)) ∧ x.cell? ⟨g', j * 3 + 1, none⟩ = some (.string X) ∧ x.cell? ⟨g', j * 3 + 2, none⟩ = some (.int .i64 (o : Int)) ∧
          x.cell? ⟨g, j * 3, none⟩ = some (.int .i64 (kd : Int)) ∧ x.cell? ⟨g, j * 3 + 1, none⟩ = some (.string X) ∧ x.cell? ⟨g, j * 3 + 2, none⟩ = some (.int .i64 (o : Int))) := hide (by
      refine (unhide C2 w2).mono ?_
      rintro e w3 ⟨g3, hD⟩
      rcases hD with ⟨o', ho, _⟩ | ⟨_, v, rfl, hw⟩
      · cases ho
      · obtain ⟨g', cap', rfl, _, _, h3, h4⟩ := hw.get hws
        rw [hN]
        refine ⟨g', cap', rfl, h3, g3, fun j hj => ?_⟩
        have ha := List.getElem?_eq_getElem hj
        refine ⟨(ws[j]).k, (ws[j]).o, ⟨(ws[j]).x.toArray⟩, fun x gx => ?_⟩
        obtain ⟨a1, a2, a3⟩ := h4 x gx j _ ha
        obtain ⟨b1, b2, b3⟩ := hcell x (G.trans g3 gx) j _ ha
        exact ⟨a1, a2, a3, b1, b2, b3⟩)
    rw [← hN] at hcap ⊢
    clear hC C1 C2 hOw hcell hws hgl hN g1 g2 NE NB hNb0
    go_wp2_with fail
    refine (unhide D2).mono ?_
    rintro e w3 ⟨g', cap', rfl, hcap2, gg, hcl⟩
    have HG3 := hide (G.trans (unhide gG) gg)
    replace hcl := hide hcl
    clear D2 gG gg
    go_wp2_with fail
    go_loopw [8] (fun i wr => ∃ j : Nat, j ≤ N ∧ i = .int .i64 (j : Int) ∧ Hid (G w3 wr)) (fun i _ => N - (intOf i).toNat)
    case atStart => exact ⟨0, Nat.zero_le _, rfl, hide (G.refl _)⟩
    case round =>
      obtain ⟨j, hj, rfl, HJ⟩ := hrel
      by_cases hlt : j < N
      · obtain ⟨kd, o, X, hx⟩ := unhide hcl j hlt
        have hd0 : ∀ q, (wr.drewN q).cell? ⟨g', j * 3, none⟩ = some (.int .i64 (kd : Int)) := fun q => (hx _ (G.trans (unhide HJ) (g_drewN _ _))).1
        have hd1 : ∀ q, (wr.drewN q).cell? ⟨g', j * 3 + 1, none⟩ = some (.string X) := fun q => (hx _ (G.trans (unhide HJ) (g_drewN _ _))).2.1
        have hd2 : ∀ q, (wr.drewN q).cell? ⟨g', j * 3 + 2, none⟩ = some (.int .i64 (o : Int)) := fun q => (hx _ (G.trans (unhide HJ) (g_drewN _ _))).2.2.1
        have hd3 : ∀ q, (wr.drewN q).cell? ⟨g, j * 3, none⟩ = some (.int .i64 (kd : Int)) := fun q => (hx _ (G.trans (unhide HJ) (g_drewN _ _))).2.2.2.1
        have hd4 : ∀ q, (wr.drewN q).cell? ⟨g, j * 3 + 1, none⟩ = some (.string X) := fun q => (hx _ (G.trans (unhide HJ) (g_drewN _ _))).2.2.2.2.1
        have hd5 : ∀ q, (wr.drewN q).cell? ⟨g, j * 3 + 2, none⟩ = some (.int .i64 (o : Int)) := fun q => (hx _ (G.trans (unhide HJ) (g_drewN _ _))).2.2.2.2.2
        have h2 : (0 : Int) ≤ (j : Int) ∧ (j : Int) < (N : Int) := ⟨Int.natCast_nonneg j, by omega⟩
        have HM := hide (show (j : Int) < (j : Int) + 1 ∧ (j : Int) + 1 ≤ (N : Int) by omega)
        clear hx hcl
        go_wp2_with fail
        go_quiet (fail)
        have HJ2 := hide (G.trans (unhide HJ) (g_drewN wr nq))
        generalize wr.drewN nq = wr2 at HJ2
        clear hd0 hd1 hd2 hd3 hd4 hd5 HJ
        go_wp2_with fail
        go_roundw
        case rel => exact ⟨j + 1, by omega, by first | rfl | go_num, HJ2⟩
        case measure => exact dec_m (unhide HM).1 (unhide HM).2
      · have h2 : ¬ (j : Int) < (N : Int) := by omega
        have HE := hide (G.trans (unhide HG3) (unhide HJ))
        clear hcl HJ HG3
        go_wp2_with fail
        go_ret
        exact ⟨rfl, unhide HE⟩
theorem walk_LexCuts (s : ByteArray) (W : World) (hL : laidMetH Tryd.prog laid9 W) (_ : s.size ≤ maxLen) : Calls Tryd.prog 4 #[.string s] W fun e w' => e = .returned (.bool true) ∧ G W w' := cuts_core s W (ev_of_laid hL)

set_option maxRecDepth 100000 in
theorem lifted_LexCuts (os : Os) (started : os.Started) (H : Type) (enc : TypeId × Value → H) :
    ReturnsInHanded {} Tryd.checked os 4 .any (fun w args => (Rows.lexCutsSpec.pre enc Tryd.prog Tryd.f4 [] false w args ∧ laidMetH Tryd.prog laid9 w) ∧ sizedMet enc Tryd.prog Tryd.f4 (OpenSpec.ofChange Rows.lexCutsSpec) false w args)
      (Rows.lexCutsSpec.post enc Tryd.prog Tryd.f4 false true false false) := by
  refine returnsInHanded_of_change_and (C := Tryd.checked) (X := fun w _ => laidMetH Tryd.prog laid9 w) (fun _ _ _ hh h => h.of_heap hh) own started (by kernel_rfl) Tryd.func4
    (ChangeSpec.witness_shaped (enc := enc) (C := Tryd.checked) (os := os) (X := fun w _ => laidMetH Tryd.prog laid9 w) false (World.doorLaid Tryd.prog 400 os) #[.string ⟨#[]⟩] 8 rfl (World.shaped_of_RefB (by kernel_rfl) (by kernel_rfl)) (by kernel_rfl) (by kernel_rfl) (by kernel_rfl) (door_met os _)) ?_
  intro W base args ds gs before hval0 hW _ _ hL _
  have hval : ∀ (j : Nat) t v, Tryd.f4.params[j]? = some t → args[j]? = some v → Value.okWide Tryd.prog W .any base t v := hval0
  have hW' := hW
  obtain ⟨p, q, hA0, hV, rfl, hfz, hnd⟩ := hW
  have hA : DataW.TrodAll enc Tryd.prog W 0 (fun _ => true) true Tryd.f4.params.toList args.toList ds p := hA0
  rw [Tryd.params4] at hA hval
  obtain ⟨v0, vs0, d0, ds0, p0, q0, hargs, rfl, rfl, h0, r0⟩ := trodAll_cons hA
  obtain ⟨rfl, rfl, rfl⟩ := trodAll_nil r0
  obtain rfl : args = #[v0] := by cases args; simp_all
  obtain ⟨rfl, rfl⟩ := trodVars_none hV
  have k0 := h0
  have lt0 : ∀ x ∈ p0, x.block < W.heap.size := by obtain ⟨m, hm⟩ := k0; exact DataW.trod_lt m _ _ _ hm
  obtain ⟨s0, rfl, rfl, rfl, w0⟩ := Go.ChangeMaps.open_string Tryd.underlying9 (hval 0 9 v0 rfl rfl) h0
  clear hA0 hval0
  refine (walk_LexCuts s0 W hL w0).mono fun e W' ⟨he, hg⟩ => ?_
  subst he
  exact ⟨_, rfl, _, _, _, [], _, [], hW', trodAll_mk1 (shut_bool Tryd.underlying4 _), (trodAll_cons_mk (Below.trod laidOut (by kernel_rfl) (of_decide_eq_true (by kernel_rfl)) k0 hg lt0) trodAll_mk0), rfl, hg.frame _, fun h => by cases h⟩

theorem row_LexCuts : Rows.LexCutsSaid :=
  OpenClaim.holds_of_wide 4 Tryd.f4 rfl rfl rfl rfl rfl rfl rfl ⟨rfl, rfl, rfl, rfl, rfl⟩ rfl rfl rfl rfl rfl (by kernel_rfl) Tryd.func4 (by kernel_rfl)
    (of_decide_eq_true (by kernel_rfl)) (by unfold Func.isWrapper; first | (rw [if_pos (by decide +kernel)]; kernel_rfl) | (rw [if_neg (by decide +kernel)]; exact ⟨rfl, rfl⟩))
    (fun os started H enc _ => lifted_LexCuts os started H enc)

/-- THE STATEMENT. -/
theorem card_LexCuts : Rows.LexCutsCardSaid :=
  Claim7.holds_tied_plain_at .later [] [.data, .data, .data, .sentinel, .sentinel] true (true, "dde628f0a3a5436c45470330a809e8b5ebe7b9125131689328d3ac4f873d1552") true
    row_LexCuts (fun _ h => by cases h) (by kernel_rfl) (fun _ h => by cases h) lexCuts_row_tie rfl ⟨rfl, rfl⟩ (by kernel_rfl) rfl
    (fun f fn hf hfn => by
      obtain rfl : f = 4 := Option.some.inj ((show Tryd.prog.funcNamed "gantline/gantlinelaw19.LexCuts" = some 4 by kernel_rfl).symm.trans hf) |>.symm
      obtain rfl : fn = Tryd.f4 := (Option.some.inj (Tryd.func4.symm.trans hfn)).symm
      exact ⟨by kernel_rfl, fun j t ht => by
        rw [Tryd.params4] at ht
        have hm : t ∈ [9] := by simpa using Array.mem_of_getElem? ht
        have hall : ([9].all fun u => !Tryd.prog.wantsStandIn u) = true := by kernel_rfl
        exact (show Tryd.prog.wantsStandIn t = false by simpa using List.all_eq_true.1 hall t hm)⟩)
    (by kernel_rfl)
#print axioms card_LexCuts
end Go.Proofs.YtodfcmmdnobdhaaDoor
