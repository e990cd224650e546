/- LexBetween of gantlinelaw19: for every text: the words that are cut stand where their texts are; written with a blank between they are cut the same. No condition (texts of more than 3000 bytes answer true by the statement itself). -/
import Derived.Test.YtodfcmmdnobdhaaDoorLexBase
import Derived.Test.YtodfcmmdnobdhaaDoorLexBtP
import Derived.Laws.Concat
namespace Go.Proofs.YtodfcmmdnobdhaaDoor
set_option maxRecDepth 100000
open Go.RowKit Go.Maps Go.ChangeShapes Go.WideShapes Go.ChangeAt Go.Deep

theorem G.drewN (w : World) (k : Nat) : G w (w.drewN k) := ⟨rfl, rfl, rfl, Nat.le_refl _, fun _ _ => rfl⟩
theorem wrap_fit {n : Int} (h : -9223372036854775808 ≤ n) (h2 : n ≤ 9223372036854775807) : IntKind.i64.wrap n = n := by
  rw [IntKind.wrap_i64]
  omega
/-- A word of the text, as the loop meets it. -/
theorem bt_word {s : ByteArray} {a : Wd} (hx : (s.data.toList.drop a.o).take a.x.length = a.x) :
    ∃ X : ByteArray, X.size = a.x.length ∧ X.data.toList = a.x ∧ (⟨a.x.toArray⟩ : ByteArray) = X ∧ ((s.extract a.o (a.o + X.size)).toList == X.toList) = true := by
  refine ⟨⟨a.x.toArray⟩, by simp [ByteArray.size], by simp, rfl, ?_⟩
  rw [beq_iff_eq, Lib.toList_data, Lib.toList_data, Lib.extract_data]
  have hz : (⟨a.x.toArray⟩ : ByteArray).size = a.x.length := by simp [ByteArray.size]
  rw [hz, show a.o + a.x.length - a.o = a.x.length by omega, hx]

set_option maxHeartbeats 4000000 in
theorem bt_core (s : ByteArray) (W : World) (hE : EvAt W) : Calls Tryd.prog 6 #[.string s] W fun e w' => e = .returned (.bool true) ∧ G W w' := by
  have AW := hide (awake_any W hE)
  go_enter Tryd.func6, Tryd.ntmps6
  go_wp2_with fail
  refine (unhide AW).mono ?_
  rintro e w1 ⟨rfl, g1⟩
  have hE1 := hide (hE.g g1)
  replace g1 := hide g1
  clear AW hE
  by_cases hbig : (3000 : Int) < (s.size : Int)
  · go_wp2_with fail
    go_ret
    exact ⟨rfl, unhide g1⟩
  have hs3 : s.size ≤ 3000 := by omega
  have C1 := hide (lexcut_any s w1 (by omega) (unhide hE1))
  have hl : s.data.toList.length = s.size := (Lib.size_eq s).symm
  obtain ⟨R, hR⟩ : ∃ R, R = cutL s.data.toList 0 := ⟨_, rfl⟩
  have HF : Hid (R.2 = none → GoodL R.1 ∧ (catW R.1).length ≤ s.size + R.1.length ∧ R.1.length ≤ s.size + 1 ∧ ∀ a ∈ R.1, a.o + a.x.length ≤ s.size ∧ (s.data.toList.drop a.o).take a.x.length = a.x) := hide fun h => by
    rw [hR] at h ⊢
    obtain ⟨j1, j2, j3, j4⟩ := cut_facts s.data.toList 0 h
    rw [hl] at j2 j3
    refine ⟨j1, j2, j3, fun a ha => ?_⟩
    obtain ⟨_, k2, k3⟩ := j4 a ha
    rw [hl, Nat.zero_add] at k2
    exact ⟨k2, by rw [Nat.sub_zero] at k3; exact k3⟩
  rw [← hR] at C1
  replace hs3 := hide hs3
  replace hl := hide hl
  clear hR
  go_wp2_with fail
  refine (unhide C1).mono ?_
  intro e w2 hC
  obtain ⟨ws, rb⟩ := R
  cases rb with
  | some o =>
    obtain ⟨rfl, g2⟩ := hC.bad
    replace g2 := hide (G.trans (unhide g1) g2)
    clear hC HF C1
    go_wp2_with fail
    go_ret
    exact ⟨rfl, unhide g2⟩
  | none =>
    obtain ⟨f1, f2, f3, f4⟩ : GoodL ws ∧ (catW ws).length ≤ s.size + ws.length ∧ ws.length ≤ s.size + 1 ∧ ∀ a ∈ ws, a.o + a.x.length ≤ s.size ∧ (s.data.toList.drop a.o).take a.x.length = a.x := unhide HF rfl
    have hws : ws ≠ [] := fun e => by rw [e] at f1; exact f1
    obtain ⟨g, cap, rfl, g2, hcap, hgB, hgl, hOw, hcell⟩ := hC.ok hws
    replace g2 := G.trans (unhide g1) g2
    have hE2 := hide ((unhide hE1).g hC.1)
    obtain ⟨N, hN⟩ : ∃ N, N = ws.length := ⟨_, rfl⟩
    rw [← hN] at hcap ⊢
    replace hN := hide hN
    have hs3' := unhide hs3
    have RD : Hid (∀ k, k < N → ∃ (kd o : Nat) (X : ByteArray) (a : Wd), ws[k]? = some a ∧ a.k = kd ∧ X.data.toList = a.x ∧ o + X.size ≤ s.size ∧ ((s.extract o (o + X.size)).toList == X.toList) = true ∧
        ∀ x, G w2 x → x.cell? ⟨g, k * 3, none⟩ = some (.int .i64 (kd : Int)) ∧ x.cell? ⟨g, k * 3 + 1, none⟩ = some (.string X) ∧ x.cell? ⟨g, k * 3 + 2, none⟩ = some (.int .i64 (o : Int))) := hide fun k hk => by
      have hk2 : k < ws.length := by rw [← unhide hN]; exact hk
      have ha := List.getElem?_eq_getElem hk2
      obtain ⟨p1, p2⟩ := f4 ws[k] (List.getElem_mem _)
      obtain ⟨X, x1, x2, x3, x4⟩ := bt_word p2
      refine ⟨_, _, X, _, ha, rfl, x2, by rw [x1]; exact p1, x4, fun x gx => ?_⟩
      have := hcell x gx k _ ha
      rw [x3] at this
      exact this
    have hNs : N ≤ 3001 := by rw [unhide hN]; omega
    have hcat := hide (show (catW ws).length ≤ 6001 by omega)
    have hgood := hide f1
    replace g2 := hide g2
    clear hC HF C1 f1 f2 f3 f4 hws hOw hcell hs3' hgl hgB hE1
    have STEP : Hid (∀ (k : Nat) (T X : ByteArray) (a : Wd), ws[k]? = some a → X.data.toList = a.x → T.data.toList = catW (ws.take k) → ((T ++ X) ++ (⟨#[32]⟩ : ByteArray)).data.toList = catW (ws.take (k + 1)) ∧ T.size ≤ 6001 ∧ X.size ≤ 6001) := hide fun k T X a ha hX hT => by
      have hk2 : k < ws.length := (List.getElem?_eq_some_iff.1 ha).1
      have htk : ws.take (k + 1) = ws.take k ++ [a] := by rw [List.take_add_one, ha]; rfl
      have hcc : catW (ws.take (k + 1)) = catW (ws.take k) ++ (a.x ++ [32]) := by rw [htk]; simp [catW]
      have hle : (catW (ws.take (k + 1))).length ≤ (catW ws).length := by
        have : catW ws = catW (ws.take (k + 1)) ++ catW (ws.drop (k + 1)) := by
          unfold catW
          rw [← List.flatMap_append, List.take_append_drop]
        rw [this, List.length_append]
        omega
      have hc := unhide hcat
      rw [hcc, List.length_append, List.length_append] at hle
      have e1 : T.size = (catW (ws.take k)).length := by rw [Lib.size_eq, hT]
      have e2 : X.size = a.x.length := by rw [Lib.size_eq, hX]
      refine ⟨?_, by omega, by omega⟩
      rw [hcc, ← hT, ← hX]
      simp [ByteArray.data_append]
    have ST : Hid ((⟨#[]⟩ : ByteArray).data.toList = catW (ws.take 0)) := hide rfl
    go_wp2_with fail
    go_loopw [6, 7] (fun t i wr => ∃ (k : Nat) (T : ByteArray), k ≤ N ∧ t = .string T ∧ i = .int .i64 (k : Int) ∧ Hid (G w2 wr) ∧ Hid (T.data.toList = catW (ws.take k))) (fun _ i _ => N - (intOf i).toNat)
    case atStart => exact ⟨0, ⟨#[]⟩, Nat.zero_le _, rfl, rfl, hide (G.refl _), ST⟩
    case round =>
      obtain ⟨k, T, hk, rfl, rfl, HG, HT⟩ := hrel
      clear ST
      by_cases hlt : k < N
      · obtain ⟨kd, o, X, a, ha, hkd, hX, hoX, hb, hc⟩ := unhide RD k hlt
        obtain ⟨n1, n2, n3⟩ := unhide STEP k T X a ha hX (unhide HT)
        have HN := hide n1
        have hc0 : ∀ j, (wr.drewN j).cell? ⟨g, k * 3, none⟩ = some (.int .i64 (kd : Int)) := fun j => (hc _ (G.trans (unhide HG) (G.drewN _ _))).1
        have hc1 : ∀ j, (wr.drewN j).cell? ⟨g, k * 3 + 1, none⟩ = some (.string X) := fun j => (hc _ (G.trans (unhide HG) (G.drewN _ _))).2.1
        have hc2 : ∀ j, (wr.drewN j).cell? ⟨g, k * 3 + 2, none⟩ = some (.int .i64 (o : Int)) := fun j => (hc _ (G.trans (unhide HG) (G.drewN _ _))).2.2
        have hcx : Hid (∀ x, G wr x → x.cell? ⟨g, k * 3 + 1, none⟩ = some (.string X)) := hide fun x gx => (hc x (G.trans (unhide HG) gx)).2.1
        have h1 : (0 : Int) ≤ (k : Int) ∧ (k : Int) < (N : Int) := ⟨Int.natCast_nonneg k, by omega⟩
        have h2 : ¬ ((s.size : Int) - (X.size : Int) < (o : Int)) := by omega
        have h3 : (0 : Int) ≤ (o : Int) ∧ (o : Int) ≤ (o : Int) + (X.size : Int) ∧ (o : Int) + (X.size : Int) ≤ (s.size : Int) := by omega
        have hd1 : decide ((o : Int) < 0) = false := decide_eq_false (by omega)
        have hd2 : decide ((s.size : Int) - (X.size : Int) < (o : Int)) = false := decide_eq_false h2
        have hw1 : IntKind.i64.wrap ((s.size : Int) - (X.size : Int)) = (s.size : Int) - (X.size : Int) := wrap_fit (by omega) (by omega)
        have hw2 : IntKind.i64.wrap ((o : Int) + (X.size : Int)) = (o : Int) + (X.size : Int) := wrap_fit (by omega) (by omega)
        have ha1 : ∀ w, (Op.stringOp .add T X).run Tryd.prog w = .ok (.string (T ++ X)) w := fun w => run_string_add_sum w T X (by omega)
        have hsz : (T ++ X).size = T.size + X.size := ByteArray.size_append
        have ha2 : ∀ w, (Op.stringOp .add (T ++ X) ⟨#[32]⟩).run Tryd.prog w = .ok (.string (T ++ X ++ ⟨#[32]⟩)) w := fun w => run_string_add_sum w (T ++ X) ⟨#[32]⟩ (by rw [hsz]; show T.size + X.size + 1 ≤ _; omega)
        have HM := hide (show (k : Int) < (k : Int) + 1 ∧ (k : Int) + 1 ≤ (N : Int) by omega)
        clear hc ha hkd hX n1 HT RD STEP
        go_wp2_with fail
        go_quiet (fail)
        clear hc0 hc1 hc2 hb hw1 hw2 hd1 hd2 h2 h3 hoX
        have hc1 : (wr.drewN nq).cell? ⟨g, k * 3 + 1, none⟩ = some (.string X) := unhide hcx _ (G.drewN _ _)
        have HG2 := hide (G.trans (unhide HG) (G.drewN wr nq))
        generalize wr.drewN nq = wr2 at hc1 HG2
        clear hcx HG
        generalize hTX : T ++ X = TX at ha1 ha2 hsz HN
        generalize hTY : TX ++ (⟨#[32]⟩ : ByteArray) = TY at ha2 HN
        clear hTX hTY hsz n2 n3
        go_wp2_with fail
        go_roundw
        case rel => exact ⟨k + 1, TY, by omega, rfl, by first | rfl | go_num, HG2, HN⟩
        case measure => exact dec_m (unhide HM).1 (unhide HM).2
      · obtain rfl : k = N := by omega
        have hTN : T.data.toList = catW ws := by rw [unhide HT, List.take_of_length_le (by rw [← unhide hN]; exact Nat.le_refl _)]
        have hTs : T.size ≤ 6001 := by rw [Lib.size_eq, hTN]; exact unhide hcat
        have hcut := cut_cat ws 0 (unhide hgood)
        have D := lexcut_any T wr (by omega) ((unhide hE2).g (unhide HG))
        rw [hTN] at D
        obtain ⟨R, hR⟩ : ∃ R, R = cutL (catW ws) 0 := ⟨_, rfl⟩
        rw [← hR] at hcut D
        obtain ⟨wt, rb⟩ := R
        obtain ⟨q1, q2⟩ := hcut
        have q1 : rb = none := q1
        subst q1
        have q2 : kxW wt = kxW ws := q2
        have hlen : wt.length = k := by
          have := congrArg List.length q2
          simp only [kxW, List.length_map] at this
          rw [this, unhide hN]
        have hwt : wt ≠ [] := fun e => by
          rw [e] at q2
          have h0 := congrArg List.length q2
          simp only [kxW, List.length_map, List.length_nil] at h0
          have := List.eq_nil_of_length_eq_zero h0.symm
          have hg := unhide hgood
          rw [this] at hg
          exact hg
        have h1 : ¬ (k : Int) < (k : Int) := by omega
        have HG2 := hide (G.trans (unhide g2) (unhide HG))
        have D2 : Hid (Calls Tryd.prog 8 #[.string T] wr fun e w3 => ∃ g' cap', e = .returned (.tuple #[.slice (some ⟨g', 0, none⟩) k cap', .int .i64 0, .int .i64 0]) ∧ k ≤ cap' ∧ G wr w3 ∧
            ∀ j, j < k → ∃ (kd : Nat) (X : ByteArray), ∀ x, G w3 x → x.cell? ⟨g', j * 3, none⟩ = some (.int .i64 (kd : Int)) ∧ x.cell? ⟨g', j * 3 + 1, none⟩ = some (.string X) ∧
              x.cell? ⟨g, j * 3, none⟩ = some (.int .i64 (kd : Int)) ∧ x.cell? ⟨g, j * 3 + 1, none⟩ = some (.string X)) := hide (by
          refine D.mono fun e w3 h => ?_
          obtain ⟨g', cap', he, gg, hc, _, _, _, hcell⟩ := h.ok hwt
          rw [hlen] at he hc
          refine ⟨g', cap', he, hc, gg, fun j hj => ?_⟩
          obtain ⟨kd, o, X, a, ha, hkd, hX, _, _, hcl⟩ := unhide RD j hj
          have hjt : j < wt.length := by rw [hlen]; exact hj
          have hat := List.getElem?_eq_getElem hjt
          have hkx : ((wt[j]).k, (wt[j]).x) = (a.k, a.x) := by
            have h9 := congrArg (·[j]?) q2
            simp only [kxW, List.getElem?_map, hat, ha, Option.map_some] at h9
            exact Option.some.inj h9
          obtain ⟨e1, e2⟩ := Prod.mk.inj hkx
          refine ⟨kd, X, fun x gx => ?_⟩
          obtain ⟨b1, b2, _⟩ := hcell x gx j _ hat
          obtain ⟨b4, b5, _⟩ := hcl x (G.trans (G.trans (unhide HG) gg) gx)
          have eX : (⟨(wt[j]).x.toArray⟩ : ByteArray) = X := by
            rw [e2, ← hX]
          exact ⟨by rw [b1, e1, hkd], by rw [b2, eX], b4, b5⟩)
        clear hTN hTs D hR q2 hlen hwt HT RD STEP hcat hgood HG g2 hlt hE2
        go_wp2_with fail
        refine (unhide D2).mono ?_
        rintro e w3 ⟨g', cap', rfl, hcap2, gg, hcl⟩
        have HG3 := hide (G.trans (unhide HG2) gg)
        replace hcl := hide hcl
        clear D2 HG2 gg
        go_wp2_with fail
        go_loopw [11] (fun i wr => ∃ j : Nat, j ≤ k ∧ i = .int .i64 (j : Int) ∧ Hid (G w3 wr)) (fun i _ => k - (intOf i).toNat)
        case atStart => exact ⟨0, Nat.zero_le _, rfl, hide (G.refl _)⟩
        case round =>
          obtain ⟨j, hj, rfl, HJ⟩ := hrel
          by_cases hlt : j < k
          · obtain ⟨kd, X, hx⟩ := unhide hcl j hlt
            have hd0 : ∀ q, (wr.drewN q).cell? ⟨g', j * 3, none⟩ = some (.int .i64 (kd : Int)) := fun q => (hx _ (G.trans (unhide HJ) (G.drewN _ _))).1
            have hd1 : ∀ q, (wr.drewN q).cell? ⟨g', j * 3 + 1, none⟩ = some (.string X) := fun q => (hx _ (G.trans (unhide HJ) (G.drewN _ _))).2.1
            have hd2 : ∀ q, (wr.drewN q).cell? ⟨g, j * 3, none⟩ = some (.int .i64 (kd : Int)) := fun q => (hx _ (G.trans (unhide HJ) (G.drewN _ _))).2.2.1
            have hd3 : ∀ q, (wr.drewN q).cell? ⟨g, j * 3 + 1, none⟩ = some (.string X) := fun q => (hx _ (G.trans (unhide HJ) (G.drewN _ _))).2.2.2
            have h2 : (0 : Int) ≤ (j : Int) ∧ (j : Int) < (k : Int) := ⟨Int.natCast_nonneg j, by omega⟩
            have hb1 : (X.toList == X.toList) = true := by simp
            have HM := hide (show (j : Int) < (j : Int) + 1 ∧ (j : Int) + 1 ≤ (k : Int) by omega)
            clear hx hcl
            go_wp2_with fail
            go_quiet (fail)
            have HJ2 := hide (G.trans (unhide HJ) (G.drewN wr nq))
            generalize wr.drewN nq = wr2 at HJ2
            clear hd0 hd1 hd2 hd3 HJ
            go_wp2_with fail
            go_roundw
            case rel => exact ⟨j + 1, by omega, by first | rfl | go_num, HJ2⟩
            case measure => exact dec_m (unhide HM).1 (unhide HM).2
          · have h2 : ¬ (j : Int) < (k : Int) := by omega
            have HE := hide (G.trans (unhide HG3) (unhide HJ))
            clear hcl HJ HG3
            go_wp2_with fail
            go_ret
            exact ⟨rfl, unhide HE⟩
theorem walk_LexBetween (s : ByteArray) (W : World) (hL : laidMetH Tryd.prog laid9 W) (_ : s.size ≤ maxLen) : Calls Tryd.prog 6 #[.string s] W fun e w' => e = .returned (.bool true) ∧ G W w' := bt_core s W (ev_of_laid hL)

set_option maxRecDepth 100000 in
theorem lifted_LexBetween (os : Os) (started : os.Started) (H : Type) (enc : TypeId × Value → H) :
    ReturnsInHanded {} Tryd.checked os 6 .any (fun w args => (Rows.lexBetweenSpec.pre enc Tryd.prog Tryd.f6 [] false w args ∧ laidMetH Tryd.prog laid9 w) ∧ sizedMet enc Tryd.prog Tryd.f6 (OpenSpec.ofChange Rows.lexBetweenSpec) false w args)
      (Rows.lexBetweenSpec.post enc Tryd.prog Tryd.f6 false true false false) := by
  refine returnsInHanded_of_change_and (C := Tryd.checked) (X := fun w _ => laidMetH Tryd.prog laid9 w) (fun _ _ _ hh h => h.of_heap hh) own started (by kernel_rfl) Tryd.func6
    (ChangeSpec.witness_shaped (enc := enc) (C := Tryd.checked) (os := os) (X := fun w _ => laidMetH Tryd.prog laid9 w) false (World.doorLaid Tryd.prog 400 os) #[.string ⟨#[]⟩] 8 rfl (World.shaped_of_RefB (by kernel_rfl) (by kernel_rfl)) (by kernel_rfl) (by kernel_rfl) (by kernel_rfl) (door_met os _)) ?_
  intro W base args ds gs before hval0 hW _ _ hL _
  have hval : ∀ (j : Nat) t v, Tryd.f6.params[j]? = some t → args[j]? = some v → Value.okWide Tryd.prog W .any base t v := hval0
  have hW' := hW
  obtain ⟨p, q, hA0, hV, rfl, hfz, hnd⟩ := hW
  have hA : DataW.TrodAll enc Tryd.prog W 0 (fun _ => true) true Tryd.f6.params.toList args.toList ds p := hA0
  rw [Tryd.params6] at hA hval
  obtain ⟨v0, vs0, d0, ds0, p0, q0, hargs, rfl, rfl, h0, r0⟩ := trodAll_cons hA
  obtain ⟨rfl, rfl, rfl⟩ := trodAll_nil r0
  obtain rfl : args = #[v0] := by cases args; simp_all
  obtain ⟨rfl, rfl⟩ := trodVars_none hV
  have k0 := h0
  have lt0 : ∀ x ∈ p0, x.block < W.heap.size := by obtain ⟨m, hm⟩ := k0; exact DataW.trod_lt m _ _ _ hm
  obtain ⟨s0, rfl, rfl, rfl, w0⟩ := Go.ChangeMaps.open_string Tryd.underlying9 (hval 0 9 v0 rfl rfl) h0
  clear hA0 hval0
  refine (walk_LexBetween s0 W hL w0).mono fun e W' ⟨he, hg⟩ => ?_
  subst he
  exact ⟨_, rfl, _, _, _, [], _, [], hW', trodAll_mk1 (shut_bool Tryd.underlying4 _), (trodAll_cons_mk (Below.trod laidOut (by kernel_rfl) (of_decide_eq_true (by kernel_rfl)) k0 hg lt0) trodAll_mk0), rfl, hg.frame _, fun h => by cases h⟩

theorem row_LexBetween : Rows.LexBetweenSaid :=
  OpenClaim.holds_of_wide 6 Tryd.f6 rfl rfl rfl rfl rfl rfl rfl ⟨rfl, rfl, rfl, rfl, rfl⟩ rfl rfl rfl rfl rfl (by kernel_rfl) Tryd.func6 (by kernel_rfl)
    (of_decide_eq_true (by kernel_rfl)) (by unfold Func.isWrapper; first | (rw [if_pos (by decide +kernel)]; kernel_rfl) | (rw [if_neg (by decide +kernel)]; exact ⟨rfl, rfl⟩))
    (fun os started H enc _ => lifted_LexBetween os started H enc)

/-- THE STATEMENT. -/
theorem card_LexBetween : Rows.LexBetweenCardSaid :=
  Claim7.holds_tied_plain_at .later [] [.data, .data, .data, .sentinel, .sentinel] true (true, "dde628f0a3a5436c45470330a809e8b5ebe7b9125131689328d3ac4f873d1552") true
    row_LexBetween (fun _ h => by cases h) (by kernel_rfl) (fun _ h => by cases h) lexBetween_row_tie rfl ⟨rfl, rfl⟩ (by kernel_rfl) rfl
    (fun f fn hf hfn => by
      obtain rfl : f = 6 := Option.some.inj ((show Tryd.prog.funcNamed "gantline/gantlinelaw19.LexBetween" = some 6 by kernel_rfl).symm.trans hf) |>.symm
      obtain rfl : fn = Tryd.f6 := (Option.some.inj (Tryd.func6.symm.trans hfn)).symm
      exact ⟨by kernel_rfl, fun j t ht => by
        rw [Tryd.params6] at ht
        have hm : t ∈ [9] := by simpa using Array.mem_of_getElem? ht
        have hall : ([9].all fun u => !Tryd.prog.wantsStandIn u) = true := by kernel_rfl
        exact (show Tryd.prog.wantsStandIn t = false by simpa using List.all_eq_true.1 hall t hm)⟩)
    (by kernel_rfl)
#print axioms card_LexBetween
end Go.Proofs.YtodfcmmdnobdhaaDoor
