/- CodeReads of gantlinelaw9: for all bytes the law answers true; nothing that was there is turned. -/
import Derived.Test.YtdekhnfncecacaaDoorCodeDdec
import Derived.Test.YtdekhnfncecacaaDoorCodeRsame
namespace Go.Proofs.YtdekhnfncecacaaDoor
set_option maxRecDepth 100000
open Go.RowKit Go.Maps Go.ChangeShapes Go.WideShapes Go.ChangeAt Go.Deep

theorem len_eL {α : Type} {o : α → Prop} {e : α → List Int} {p : Prs α} {q : Nat} (c : Cod o e p q) (hq : 0 < q) (l : List α) (hl : ∀ a ∈ l, o a) : l.length ≤ (eL e l).length := by
  have h1 := flat_len c l hl
  have h2 := Nat.le_mul_of_pos_right l.length hq
  unfold eL
  rw [List.length_append]
  omega
theorem mem_flat {α : Type} (e : α → List Int) : ∀ (l : List α) (a : α), a ∈ l → (e a).length ≤ (l.flatMap e).length
  | [], _, h => by cases h
  | x :: l, a, h => by
    rw [List.flatMap_cons, List.length_append]
    rcases List.mem_cons.1 h with rfl | h
    · omega
    · have := mem_flat e l a h
      omega
theorem md_few {m : Md} (ho : oMd m) (h : (encM m).length ≤ 10000000) : m.sh.length ≤ 10000000 ∧ m.gl.length ≤ 10000000 ∧ m.co.length ≤ 10000000 ∧ m.ca.length ≤ 10000000 ∧ m.fn.length ≤ 10000000 ∧ ∀ f ∈ m.fn, f.ks.length ≤ 10000000 ∧ f.is.length ≤ 10000000 ∧ f.ms.length ≤ 10000000 := by
  obtain ⟨o1, o2, o3, o4, o5, _⟩ := ho
  simp only [encM, eMd, List.length_append] at h
  have k1 := len_eL cSp (by decide) m.sh o1.2
  have k2 := len_eL cB (by decide) m.gl o2.2
  have k3 := len_eL cI (by decide) m.co o3.2
  have k4 := len_eL cCa (by decide) m.ca o4.2
  have k5 := len_eL cFn (by decide) m.fn o5.2
  refine ⟨by omega, by omega, by omega, by omega, by omega, fun f hf => ?_⟩
  have h6 := mem_flat eFn m.fn f hf
  have h7 : (eL eFn m.fn).length = (eU m.fn.length).length + (m.fn.flatMap eFn).length := by unfold eL; rw [List.length_append]
  obtain ⟨_, _, _, _, q5, q6, q7⟩ := o5.2 f hf
  simp only [eFn, List.length_append] at h6
  have j1 := len_eL cB (by decide) f.ks q5.2
  have j2 := len_eL cIn (by decide) f.is q6.2
  have j3 := len_eL cU (by decide) f.ms q7.2
  exact ⟨by omega, by omega, by omega⟩
theorem no_len : (encM noMd).length ≤ 10000000 := by decide +kernel
/-- Bytes of the call's own. -/
theorem own_bytes {w : World} {B : Nat} {v : Value} {n : Nat} {zs : List Int} (hz : zs.length = n) (hb : Byt zs) (h : w.ownsRow B 5 1 v n (zs.map (Value.int .u8))) : ∃ ao c, v = .slice ao n c ∧ n ≤ c ∧ Row w ao n zs := by
  subst hz
  rcases h.2 with ⟨rfl, e2⟩ | ⟨g, cap, cur, rfl, h2, h3, h4, h5, h6, h7⟩
  · obtain rfl : zs = [] := List.eq_nil_of_length_eq_zero e2
    exact ⟨none, 0, rfl, Nat.le_refl _, rfl, hb, Or.inl rfl⟩
  · refine ⟨some ⟨g, 0, none⟩, cap, rfl, h4, rfl, hb, Or.inr ⟨g, 0, rfl, fun i hi => ?_⟩⟩
    have h8 : (zs.map (Value.int .u8))[i]? = some (.int .u8 (zs.getD i 0)) := by simp [List.getD, hi]
    rw [← h7, List.getElem?_take] at h8
    split at h8
    · rw [cell_of_row _ _ _ _ _ _ h3, Nat.zero_add]
      simpa using h8
    · cases h8

set_option maxHeartbeats 4000000 in
theorem walk_CodeReads (ao : Option Addr) (n c : Nat) (zs : List Int) (W : World) (ht : Tab9 W) (hI : InRow W ao n c zs) :
    Calls Tryd.prog 4 #[.slice ao n c] W fun e w' => e = .returned (.bool true) ∧ G W w' := by
  have AW := hide (fun x (g : G W x) => awake_any x (ht.g g))
  have HI := hide hI
  clear ht hI
  go_enter Tryd.func4, Tryd.ntmps4
  go_wp2_with fail
  refine (unhide AW _ (G.refl W)).mono ?_
  rintro e w1 ⟨rfl, g1⟩
  replace g1 := hide g1
  clear AW
  by_cases hbig : n ≤ 3000
  rotate_left
  · have h1 : (3000 : Int) < (n : Int) := by omega
    have h2 : 3000 < n := by omega
    clear hbig
    go_wp2_with fail
    go_ret
    exact ⟨rfl, unhide g1⟩
  have h1 : ¬ (3000 : Int) < (n : Int) := by omega
  have h2 : ¬ 3000 < n := by omega
  have R1 := hide ((unhide HI).1.later (unhide g1))
  have hnc := (unhide HI).2.1
  go_wp2_with (at_builtin; refine wpl_append_row rfl (.tmp 13) (.tmp 14) rfl w1.heap.size _ 0 [] rfl (own_empty w1 w1.heap.size (Nat.le_refl _)) ao n c zs rfl (unhide HI).2.2 ((unhide R1).later ((G.refl w1).more _)) (by omega) (by simp; try omega) ?_)
  intro v2 w2 hown2 hgrow2 hne2
  have b2 : Below w1.heap.size w1 w2 := Below.grown ((Below.refl _ _).alloc (Nat.le_refl _) _) hgrow2 (by simp) (fun q hq => by simp [Value.ownBlock] at hq; omega)
  have hown2b : w2.ownsRow w1.heap.size 5 1 v2 n (zs.map (Value.int .u8)) := by simpa using hown2
  obtain ⟨bo, bc, rfl, hbc, hRb⟩ := own_bytes (unhide R1).1 (unhide R1).2.1 hown2b
  have g2 := hide ((unhide g1).trans b2)
  have D := hide (decode_any w2 bo n bc zs hRb hbc (by omega))
  clear hown2 hgrow2 hne2 b2 hown2b hRb g1 R1 h1 h2
  go_wp2_with fail
  refine (unhide D).mono ?_
  rintro e w3 ⟨va, er, m, rfl, hMn, oM, g3, hcase⟩
  obtain ⟨son, scn, gon, gcn, con, ccn, xon, xcn, fon, fcn, rfl, r1n, r2n, r3n, r4n, r5n⟩ := hMn
  obtain ⟨w4, hw4⟩ : ∃ w4, w4 = w3.alloc (.cells #[.slice son m.sh.length scn, .slice gon m.gl.length gcn, .slice con m.co.length ccn, .slice xon m.ca.length xcn, .slice fon m.fn.length fcn, .int .i64 m.main] 28) := ⟨_, rfl⟩
  have g34 : G w3 w4 := by rw [hw4]; exact G.alloc _ _
  have hMn : Hid (ModAt w4 (.agg #[.slice son m.sh.length scn, .slice gon m.gl.length gcn, .slice con m.co.length ccn, .slice xon m.ca.length xcn, .slice fon m.fn.length fcn, .int .i64 m.main]) m) := hide (ModAt.g ⟨son, scn, gon, gcn, con, ccn, xon, xcn, fon, fcn, rfl, r1n, r2n, r3n, r4n, r5n⟩ g34)
  have g4 := hide (((unhide g2).trans g3).trans g34)
  have D2 := hide (ddec w4 ao n c zs ((unhide HI).1.later (unhide g4)) hnc (by omega))
  have a0 : w4.cell? ⟨w3.heap.size, 0, none⟩ = some (.slice son m.sh.length scn) := by rw [hw4]; simp [go_sem]
  have a1 : w4.cell? ⟨w3.heap.size, 1, none⟩ = some (.slice gon m.gl.length gcn) := by rw [hw4]; simp [go_sem]
  have a2 : w4.cell? ⟨w3.heap.size, 2, none⟩ = some (.slice con m.co.length ccn) := by rw [hw4]; simp [go_sem]
  have a3 : w4.cell? ⟨w3.heap.size, 3, none⟩ = some (.slice xon m.ca.length xcn) := by rw [hw4]; simp [go_sem]
  have a4 : w4.cell? ⟨w3.heap.size, 4, none⟩ = some (.slice fon m.fn.length fcn) := by rw [hw4]; simp [go_sem]
  have a5 : w4.cell? ⟨w3.heap.size, 5, none⟩ = some (.int .i64 m.main) := by rw [hw4]; simp [go_sem]
  clear D g3 g34 g2 hbc r1n r2n r3n r4n r5n
  go_wp2_with fail
  rw [← hw4]
  clear hw4
  refine (unhide D2).mono ?_
  rintro e w5 ⟨vb, ok, m', rfl, hMw, _, g5, hcase2⟩
  obtain ⟨rfl, hlen, hall⟩ : m = m' ∧ (encM m).length ≤ 10000000 ∧ ((ok = true ∧ er = 0 ∧ zs = encM m) ∨ (ok = false ∧ er = 3)) := by
    rcases hcase with ⟨q1, q2⟩ | ⟨q1, q2, q3⟩
    · rcases hcase2 with ⟨q4, q5⟩ | ⟨q4, _⟩
      · rw [q1] at q4
        have e1 := dec_some (unhide HI).1.2.1 q1
        refine ⟨Option.some.inj q4, ?_, Or.inl ⟨q5, q2, e1.2⟩⟩
        rw [← e1.2, (unhide HI).1.1]
        omega
      · rw [q1] at q4; cases q4
    · rcases hcase2 with ⟨q4, _⟩ | ⟨q4, q5, q6⟩
      · rw [q1] at q4; cases q4
      · exact ⟨q3.trans q6.symm, by rw [q3]; exact no_len, Or.inr ⟨q5, q2⟩⟩
  clear hcase hcase2 D2
  obtain ⟨sow, scw, gow, gcw, cow, ccw, xow, xcw, fow, fcw, rfl, r1w, r2w, r3w, r4w, r5w⟩ := hMw
  obtain ⟨w6, hw6⟩ : ∃ w6, w6 = w5.alloc (.cells #[.slice sow m.sh.length scw, .slice gow m.gl.length gcw, .slice cow m.co.length ccw, .slice xow m.ca.length xcw, .slice fow m.fn.length fcw, .int .i64 m.main] 37) := ⟨_, rfl⟩
  have g56 : G w5 w6 := by rw [hw6]; exact G.alloc _ _
  have hMw : Hid (ModAt w6 (.agg #[.slice sow m.sh.length scw, .slice gow m.gl.length gcw, .slice cow m.co.length ccw, .slice xow m.ca.length xcw, .slice fow m.fn.length fcw, .int .i64 m.main]) m) := hide (ModAt.g ⟨sow, scw, gow, gcw, cow, ccw, xow, xcw, fow, fcw, rfl, r1w, r2w, r3w, r4w, r5w⟩ g56)
  have g46 := g5.trans g56
  obtain ⟨TA, hTA⟩ : ∃ T, T = strOfNums zs := ⟨_, rfl⟩
  replace a0 := g46.cell a0
  replace a1 := g46.cell a1
  replace a2 := g46.cell a2
  replace a3 := g46.cell a3
  replace a4 := g46.cell a4
  replace a5 := g46.cell a5
  have b0 : w6.cell? ⟨w5.heap.size, 0, none⟩ = some (.slice sow m.sh.length scw) := by rw [hw6]; simp [go_sem]
  have b1 : w6.cell? ⟨w5.heap.size, 1, none⟩ = some (.slice gow m.gl.length gcw) := by rw [hw6]; simp [go_sem]
  have b2 : w6.cell? ⟨w5.heap.size, 2, none⟩ = some (.slice cow m.co.length ccw) := by rw [hw6]; simp [go_sem]
  have b3 : w6.cell? ⟨w5.heap.size, 3, none⟩ = some (.slice xow m.ca.length xcw) := by rw [hw6]; simp [go_sem]
  have b4 : w6.cell? ⟨w5.heap.size, 4, none⟩ = some (.slice fow m.fn.length fcw) := by rw [hw6]; simp [go_sem]
  have b5 : w6.cell? ⟨w5.heap.size, 5, none⟩ = some (.int .i64 m.main) := by rw [hw6]; simp [go_sem]
  replace hMn := hide ((unhide hMn).g g46)
  have G6 := hide ((unhide g4).trans g46)
  have KC : Hid (∀ x, G w6 x → (convert 31 9 (.slice ao n c)).run Tryd.prog x = .ok (.string TA) x ∧ x.cell? ⟨w3.heap.size, 0, none⟩ = some (.slice son m.sh.length scn) ∧ x.cell? ⟨w3.heap.size, 1, none⟩ = some (.slice gon m.gl.length gcn) ∧ x.cell? ⟨w3.heap.size, 2, none⟩ = some (.slice con m.co.length ccn) ∧ x.cell? ⟨w3.heap.size, 3, none⟩ = some (.slice xon m.ca.length xcn) ∧ x.cell? ⟨w3.heap.size, 4, none⟩ = some (.slice fon m.fn.length fcn) ∧ x.cell? ⟨w3.heap.size, 5, none⟩ = some (.int .i64 m.main) ∧ x.cell? ⟨w5.heap.size, 0, none⟩ = some (.slice sow m.sh.length scw) ∧ x.cell? ⟨w5.heap.size, 1, none⟩ = some (.slice gow m.gl.length gcw) ∧ x.cell? ⟨w5.heap.size, 2, none⟩ = some (.slice cow m.co.length ccw) ∧ x.cell? ⟨w5.heap.size, 3, none⟩ = some (.slice xow m.ca.length xcw) ∧ x.cell? ⟨w5.heap.size, 4, none⟩ = some (.slice fow m.fn.length fcw) ∧ x.cell? ⟨w5.heap.size, 5, none⟩ = some (.int .i64 m.main)) := hide (fun x gx => ⟨by rw [hTA]; exact conv_row ((unhide HI).1.later ((unhide G6).trans gx)) c, gx.cell a0, gx.cell a1, gx.cell a2, gx.cell a3, gx.cell a4, gx.cell a5, gx.cell b0, gx.cell b1, gx.cell b2, gx.cell b3, gx.cell b4, gx.cell b5⟩)
  have HO := hide oM
  have HL := hide hlen
  have CM := hide (fun x (gx : G w6 x) => by
    obtain ⟨l1, l2, l3, l4, l5, l6⟩ := md_few oM hlen
    exact rmodule x _ m ((unhide hMn).g gx) l1 l2 l3 l4 l5 l6)
  have CS : Hid (∀ x v3, ModAt x v3 m → G w6 x → Calls Tryd.prog 11 #[v3, .agg #[.slice sow m.sh.length scw, .slice gow m.gl.length gcw, .slice cow m.co.length ccw, .slice xow m.ca.length xcw, .slice fow m.fn.length fcw, .int .i64 m.main]] x fun e w' => e = .returned (.bool true) ∧ G x w') := hide (fun x v3 h3 gx => by
    refine (rsame x v3 _ m m h3 ((unhide hMw).g gx) oM oM hlen hlen).mono ?_
    rintro e w' ⟨⟨q, rfl, hq⟩, hg⟩
    exact ⟨by rw [hq.2 rfl], hg⟩)
  have CE : Hid (zs = encM m → ∀ x, G w6 x → Calls Tryd.prog 7 #[.agg #[.slice son m.sh.length scn, .slice gon m.gl.length gcn, .slice con m.co.length ccn, .slice xon m.ca.length xcn, .slice fon m.fn.length fcn, .int .i64 m.main]] x fun e w' => ∃ g cap L, e = .returned (.slice (some ⟨g, 0, none⟩) L cap) ∧ (∀ x', G w' x' → (convert 31 9 (.slice (some ⟨g, 0, none⟩) L cap)).run Tryd.prog x' = .ok (.string TA) x') ∧ G x w') := hide (fun he x gx => by
    refine (encode_any x _ m ((unhide hMn).g gx) oM (by omega)).mono ?_
    rintro e w' ⟨g, cap, rfl, hO, hg⟩
    exact ⟨g, cap, _, rfl, fun x' gx' => by rw [hTA, he]; exact conv_row ((hO.row (enc_byt m oM)).later gx') cap, hg⟩)
  clear g5 g56 g46 g4 hMw hMn hTA r1w r2w r3w r4w r5w oM hlen a0 a1 a2 a3 a4 a5 b0 b1 b2 b3 b4 b5 hnc HI
  have hself : (TA.toList == TA.toList) = true := by simp
  rcases hall with ⟨rfl, rfl, hze⟩ | ⟨rfl, rfl⟩
  · have CE2 := hide (unhide CE hze)
    clear CE HO HL hze
    go_wp2_with fail
    rw [← hw6]
    clear hw6
    refine wp_region_noPanic ?_
    refine wp_region_held_drew (S := fun x => G w6 x ∧ (convert 31 9 (.slice ao n c)).run Tryd.prog x = .ok (.string TA) x ∧ x.cell? ⟨w3.heap.size, 0, none⟩ = some (.slice son m.sh.length scn) ∧ x.cell? ⟨w3.heap.size, 1, none⟩ = some (.slice gon m.gl.length gcn) ∧ x.cell? ⟨w3.heap.size, 2, none⟩ = some (.slice con m.co.length ccn) ∧ x.cell? ⟨w3.heap.size, 3, none⟩ = some (.slice xon m.ca.length xcn) ∧ x.cell? ⟨w3.heap.size, 4, none⟩ = some (.slice fon m.fn.length fcn) ∧ x.cell? ⟨w3.heap.size, 5, none⟩ = some (.int .i64 m.main) ∧ x.cell? ⟨w5.heap.size, 0, none⟩ = some (.slice sow m.sh.length scw) ∧ x.cell? ⟨w5.heap.size, 1, none⟩ = some (.slice gow m.gl.length gcw) ∧ x.cell? ⟨w5.heap.size, 2, none⟩ = some (.slice cow m.co.length ccw) ∧ x.cell? ⟨w5.heap.size, 3, none⟩ = some (.slice xow m.ca.length xcw) ∧ x.cell? ⟨w5.heap.size, 4, none⟩ = some (.slice fow m.fn.length fcw) ∧ x.cell? ⟨w5.heap.size, 5, none⟩ = some (.int .i64 m.main)) (by kernel_rfl) ⟨(G.refl _).drew, unhide KC _ (G.refl _).drew⟩ (fun hHeld => ?_)
    refine wpAnyH_take (i := 0) (v := .agg #[.slice son m.sh.length scn, .slice gon m.gl.length gcn, .slice con m.co.length ccn, .slice xon m.ca.length xcn, .slice fon m.fn.length fcn, .int .i64 m.main]) rfl (by kernel_rfl) (by kernel_rfl) (by kernel_rfl) (fun _ _ _ h => h) (Or.inl ⟨by rfl, fun w hSw => by obtain ⟨t0, t1, t2, t3, t4, t5, t6, t7, t8, t9, t10, t11, t12, t13⟩ := hSw; go_simp⟩) (by assumption) ?_
    try simp only [Act.put, List.getElem_toArray, List.getElem_cons_zero, List.setIfInBounds_toArray, List.set_cons_zero, List.set_cons_succ]
    refine wpAnyH_take (i := 2) (v := .agg #[.slice sow m.sh.length scw, .slice gow m.gl.length gcw, .slice cow m.co.length ccw, .slice xow m.ca.length xcw, .slice fow m.fn.length fcw, .int .i64 m.main]) rfl (by kernel_rfl) (by kernel_rfl) (by kernel_rfl) (fun _ _ _ h => h) (Or.inl ⟨by rfl, fun w hSw => by obtain ⟨t0, t1, t2, t3, t4, t5, t6, t7, t8, t9, t10, t11, t12, t13⟩ := hSw; go_simp⟩) (by assumption) ?_
    try simp only [Act.put, List.getElem_toArray, List.getElem_cons_succ, List.getElem_cons_zero, List.setIfInBounds_toArray, List.set_cons_zero, List.set_cons_succ]
    refine wpAnyH_ready (rs := [1]) (by kernel_rfl) (by simp) ?_
    refine AllReadyH.cons rfl (fun K hK => ?_) AllReadyH.nil
    go_simp
    refine (unhide CM _ hHeld.1).mono ?_
    rintro e x2 ⟨v2, rfl, F2, hg2⟩
    go_wp2_with fail
    have gx2 := hHeld.1.trans hg2
    refine hK.out _ _ ⟨gx2, unhide KC _ gx2⟩ (fun hHeld2 => ?_)
    clear hK K hHeld
    try simp only [Act.put, List.getElem_toArray, List.getElem_cons_succ, List.getElem_cons_zero, List.setIfInBounds_toArray, List.set_cons_zero, List.set_cons_succ]
    replace F2 := hide F2
    refine wpAnyH_ready (rs := [3]) (by kernel_rfl) (by simp) ?_
    refine AllReadyH.cons rfl (fun K hK => ?_) AllReadyH.nil
    go_simp
    refine (unhide CS _ _ (unhide F2) gx2).mono ?_
    rintro e x3 ⟨rfl, hg3⟩
    go_wp2_with fail
    have gx3 := gx2.trans hg3
    refine hK.out _ _ ⟨gx3, unhide KC _ gx3⟩ (fun hHeld => ?_)
    clear hK K hHeld2 F2
    try simp only [Act.put, List.getElem_toArray, List.getElem_cons_succ, List.getElem_cons_zero, List.setIfInBounds_toArray, List.set_cons_zero, List.set_cons_succ]
    refine wpAnyH_take (i := 4) (v := .bool true) rfl (by kernel_rfl) (by kernel_rfl) (by kernel_rfl) (fun _ _ _ h => h) (Or.inl ⟨by rfl, fun w hSw => by obtain ⟨t0, t1, t2, t3, t4, t5, t6, t7, t8, t9, t10, t11, t12, t13⟩ := hSw; go_simp⟩) (by assumption) ?_
    try simp only [Act.put, List.getElem_toArray, List.getElem_cons_succ, List.getElem_cons_zero, List.setIfInBounds_toArray, List.set_cons_zero, List.set_cons_succ]
    refine wpAnyH_take (i := 5) (v := .bool true) rfl (by kernel_rfl) (by kernel_rfl) (by kernel_rfl) (fun _ _ _ h => h) (Or.inl ⟨by rfl, fun w hSw => by obtain ⟨t0, t1, t2, t3, t4, t5, t6, t7, t8, t9, t10, t11, t12, t13⟩ := hSw; go_simp⟩) (by assumption) ?_
    try simp only [Act.put, List.getElem_toArray, List.getElem_cons_succ, List.getElem_cons_zero, List.setIfInBounds_toArray, List.set_cons_zero, List.set_cons_succ]
    refine wpAnyH_take (i := 6) (v := .bool false) rfl (by kernel_rfl) (by kernel_rfl) (by kernel_rfl) (fun _ _ _ h => h) (Or.inl ⟨by rfl, fun w hSw => by obtain ⟨t0, t1, t2, t3, t4, t5, t6, t7, t8, t9, t10, t11, t12, t13⟩ := hSw; go_simp⟩) (by assumption) ?_
    try simp only [Act.put, List.getElem_toArray, List.getElem_cons_succ, List.getElem_cons_zero, List.setIfInBounds_toArray, List.set_cons_zero, List.set_cons_succ]
    refine wpAnyH_take (i := 7) (v := .bool false) rfl (by kernel_rfl) (by kernel_rfl) (by kernel_rfl) (fun _ _ _ h => h) (Or.inl ⟨by rfl, fun w hSw => by obtain ⟨t0, t1, t2, t3, t4, t5, t6, t7, t8, t9, t10, t11, t12, t13⟩ := hSw; go_simp⟩) (by assumption) ?_
    try simp only [Act.put, List.getElem_toArray, List.getElem_cons_succ, List.getElem_cons_zero, List.setIfInBounds_toArray, List.set_cons_zero, List.set_cons_succ]
    refine wpAnyH_take (i := 8) (v := .agg #[.slice son m.sh.length scn, .slice gon m.gl.length gcn, .slice con m.co.length ccn, .slice xon m.ca.length xcn, .slice fon m.fn.length fcn, .int .i64 m.main]) rfl (by kernel_rfl) (by kernel_rfl) (by kernel_rfl) (fun _ _ _ h => h) (Or.inl ⟨by rfl, fun w hSw => by obtain ⟨t0, t1, t2, t3, t4, t5, t6, t7, t8, t9, t10, t11, t12, t13⟩ := hSw; go_simp⟩) (by assumption) ?_
    try simp only [Act.put, List.getElem_toArray, List.getElem_cons_succ, List.getElem_cons_zero, List.setIfInBounds_toArray, List.set_cons_zero, List.set_cons_succ]
    refine wpAnyH_take (i := 11) (v := .slice ao n c) rfl (by kernel_rfl) (by kernel_rfl) (by kernel_rfl) (fun _ _ _ h => h) (Or.inl ⟨by rfl, fun w hSw => by obtain ⟨t0, t1, t2, t3, t4, t5, t6, t7, t8, t9, t10, t11, t12, t13⟩ := hSw; go_simp⟩) (by assumption) ?_
    try simp only [Act.put, List.getElem_toArray, List.getElem_cons_succ, List.getElem_cons_zero, List.setIfInBounds_toArray, List.set_cons_zero, List.set_cons_succ]
    refine wpAnyH_take (i := 12) (v := .string TA) rfl (by kernel_rfl) (by kernel_rfl) (by kernel_rfl) (fun _ _ _ h => h) (Or.inl ⟨by rfl, fun w hSw => by obtain ⟨t0, t1, t2, t3, t4, t5, t6, t7, t8, t9, t10, t11, t12, t13⟩ := hSw; go_simp⟩) (by assumption) ?_
    try simp only [Act.put, List.getElem_toArray, List.getElem_cons_succ, List.getElem_cons_zero, List.setIfInBounds_toArray, List.set_cons_zero, List.set_cons_succ]
    refine wpAnyH_ready (rs := [9]) (by kernel_rfl) (by simp) ?_
    refine AllReadyH.cons rfl (fun K hK => ?_) AllReadyH.nil
    go_simp
    refine (unhide CE2 _ gx3).mono ?_
    rintro e x4 ⟨ge, gcap, gl, rfl, F4, hg4⟩
    go_wp2_with fail
    have gx4 := gx3.trans hg4
    refine hK.out _ _ ⟨gx4, unhide KC _ gx4⟩ (fun hHeld2 => ?_)
    clear hK K hHeld
    try simp only [Act.put, List.getElem_toArray, List.getElem_cons_succ, List.getElem_cons_zero, List.setIfInBounds_toArray, List.set_cons_zero, List.set_cons_succ]
    have K4 := hide F4
    have GX := hide gx4
    refine held_more (S' := fun x => G x4 x ∧ (convert 31 9 (.slice (some ⟨ge, 0, none⟩) gl gcap)).run Tryd.prog x = .ok (.string TA) x ∧ (convert 31 9 (.slice ao n c)).run Tryd.prog x = .ok (.string TA) x ∧ x.cell? ⟨w3.heap.size, 0, none⟩ = some (.slice son m.sh.length scn) ∧ x.cell? ⟨w3.heap.size, 1, none⟩ = some (.slice gon m.gl.length gcn) ∧ x.cell? ⟨w3.heap.size, 2, none⟩ = some (.slice con m.co.length ccn) ∧ x.cell? ⟨w3.heap.size, 3, none⟩ = some (.slice xon m.ca.length xcn) ∧ x.cell? ⟨w3.heap.size, 4, none⟩ = some (.slice fon m.fn.length fcn) ∧ x.cell? ⟨w3.heap.size, 5, none⟩ = some (.int .i64 m.main) ∧ x.cell? ⟨w5.heap.size, 0, none⟩ = some (.slice sow m.sh.length scw) ∧ x.cell? ⟨w5.heap.size, 1, none⟩ = some (.slice gow m.gl.length gcw) ∧ x.cell? ⟨w5.heap.size, 2, none⟩ = some (.slice cow m.co.length ccw) ∧ x.cell? ⟨w5.heap.size, 3, none⟩ = some (.slice xow m.ca.length xcw) ∧ x.cell? ⟨w5.heap.size, 4, none⟩ = some (.slice fow m.fn.length fcw) ∧ x.cell? ⟨w5.heap.size, 5, none⟩ = some (.int .i64 m.main)) (fun x h => ⟨(unhide GX).trans h.1, h.2.2⟩) _ _ _ _ ?_
    have hH1 : G x4 x4 ∧ (convert 31 9 (.slice (some ⟨ge, 0, none⟩) gl gcap)).run Tryd.prog x4 = .ok (.string TA) x4 ∧ (convert 31 9 (.slice ao n c)).run Tryd.prog x4 = .ok (.string TA) x4 ∧ x4.cell? ⟨w3.heap.size, 0, none⟩ = some (.slice son m.sh.length scn) ∧ x4.cell? ⟨w3.heap.size, 1, none⟩ = some (.slice gon m.gl.length gcn) ∧ x4.cell? ⟨w3.heap.size, 2, none⟩ = some (.slice con m.co.length ccn) ∧ x4.cell? ⟨w3.heap.size, 3, none⟩ = some (.slice xon m.ca.length xcn) ∧ x4.cell? ⟨w3.heap.size, 4, none⟩ = some (.slice fon m.fn.length fcn) ∧ x4.cell? ⟨w3.heap.size, 5, none⟩ = some (.int .i64 m.main) ∧ x4.cell? ⟨w5.heap.size, 0, none⟩ = some (.slice sow m.sh.length scw) ∧ x4.cell? ⟨w5.heap.size, 1, none⟩ = some (.slice gow m.gl.length gcw) ∧ x4.cell? ⟨w5.heap.size, 2, none⟩ = some (.slice cow m.co.length ccw) ∧ x4.cell? ⟨w5.heap.size, 3, none⟩ = some (.slice xow m.ca.length xcw) ∧ x4.cell? ⟨w5.heap.size, 4, none⟩ = some (.slice fow m.fn.length fcw) ∧ x4.cell? ⟨w5.heap.size, 5, none⟩ = some (.int .i64 m.main) := ⟨G.refl _, unhide K4 _ (G.refl _), hHeld2.2⟩
    clear hHeld2 F4
    refine wpAnyH_take (i := 10) (v := .string TA) rfl (by kernel_rfl) (by kernel_rfl) (by kernel_rfl) (fun _ _ _ h => h) (Or.inl ⟨by rfl, fun w hSw => by obtain ⟨t0, t1, t2, t3, t4, t5, t6, t7, t8, t9, t10, t11, t12, t13, t14⟩ := hSw; go_simp⟩) (by assumption) ?_
    try simp only [Act.put, List.getElem_toArray, List.getElem_cons_succ, List.getElem_cons_zero, List.setIfInBounds_toArray, List.set_cons_zero, List.set_cons_succ]
    refine wpAnyH_take (i := 13) (v := .bool true) rfl (by kernel_rfl) (by kernel_rfl) (by kernel_rfl) (fun _ _ _ h => h) (Or.inl ⟨by rfl, fun w hSw => by obtain ⟨t0, t1, t2, t3, t4, t5, t6, t7, t8, t9, t10, t11, t12, t13, t14⟩ := hSw; go_simp⟩) (by assumption) ?_
    try simp only [Act.put, List.getElem_toArray, List.getElem_cons_succ, List.getElem_cons_zero, List.setIfInBounds_toArray, List.set_cons_zero, List.set_cons_succ]
    refine wpAnyH_take (i := 14) (v := .bool true) rfl (by kernel_rfl) (by kernel_rfl) (by kernel_rfl) (fun _ _ _ h => h) (Or.inl ⟨by rfl, fun w hSw => by obtain ⟨t0, t1, t2, t3, t4, t5, t6, t7, t8, t9, t10, t11, t12, t13, t14⟩ := hSw; go_simp⟩) (by assumption) ?_
    try simp only [Act.put, List.getElem_toArray, List.getElem_cons_succ, List.getElem_cons_zero, List.setIfInBounds_toArray, List.set_cons_zero, List.set_cons_succ]
    refine wpAnyH_take (i := 15) (v := .bool true) rfl (by kernel_rfl) (by kernel_rfl) (by kernel_rfl) (fun _ _ _ h => h) (Or.inl ⟨by rfl, fun w hSw => by obtain ⟨t0, t1, t2, t3, t4, t5, t6, t7, t8, t9, t10, t11, t12, t13, t14⟩ := hSw; go_simp⟩) (by assumption) ?_
    try simp only [Act.put, List.getElem_toArray, List.getElem_cons_succ, List.getElem_cons_zero, List.setIfInBounds_toArray, List.set_cons_zero, List.set_cons_succ]
    refine wpAnyH_take (i := 16) (v := .bool true) rfl (by kernel_rfl) (by kernel_rfl) (by kernel_rfl) (fun _ _ _ h => h) (Or.inl ⟨by rfl, fun w hSw => by obtain ⟨t0, t1, t2, t3, t4, t5, t6, t7, t8, t9, t10, t11, t12, t13, t14⟩ := hSw; go_simp⟩) (by assumption) ?_
    try simp only [Act.put, List.getElem_toArray, List.getElem_cons_succ, List.getElem_cons_zero, List.setIfInBounds_toArray, List.set_cons_zero, List.set_cons_succ]
    refine wpAnyH_done (by kernel_rfl) (NoPanic.normal ?_) _
    have FIN := hide ((unhide G6).trans (unhide GX))
    clear hH1 gx2 gx3 gx4
    go_wp2_with fail
    go_ret
    exact ⟨rfl, unhide FIN⟩
  · clear CE HO HL
    go_wp2_with fail
    rw [← hw6]
    clear hw6
    refine wp_region_noPanic ?_
    refine wp_region_held_drew (S := fun x => G w6 x ∧ (convert 31 9 (.slice ao n c)).run Tryd.prog x = .ok (.string TA) x ∧ x.cell? ⟨w3.heap.size, 0, none⟩ = some (.slice son m.sh.length scn) ∧ x.cell? ⟨w3.heap.size, 1, none⟩ = some (.slice gon m.gl.length gcn) ∧ x.cell? ⟨w3.heap.size, 2, none⟩ = some (.slice con m.co.length ccn) ∧ x.cell? ⟨w3.heap.size, 3, none⟩ = some (.slice xon m.ca.length xcn) ∧ x.cell? ⟨w3.heap.size, 4, none⟩ = some (.slice fon m.fn.length fcn) ∧ x.cell? ⟨w3.heap.size, 5, none⟩ = some (.int .i64 m.main) ∧ x.cell? ⟨w5.heap.size, 0, none⟩ = some (.slice sow m.sh.length scw) ∧ x.cell? ⟨w5.heap.size, 1, none⟩ = some (.slice gow m.gl.length gcw) ∧ x.cell? ⟨w5.heap.size, 2, none⟩ = some (.slice cow m.co.length ccw) ∧ x.cell? ⟨w5.heap.size, 3, none⟩ = some (.slice xow m.ca.length xcw) ∧ x.cell? ⟨w5.heap.size, 4, none⟩ = some (.slice fow m.fn.length fcw) ∧ x.cell? ⟨w5.heap.size, 5, none⟩ = some (.int .i64 m.main)) (by kernel_rfl) ⟨(G.refl _).drew, unhide KC _ (G.refl _).drew⟩ (fun hHeld => ?_)
    refine wpAnyH_take (i := 0) (v := .agg #[.slice son m.sh.length scn, .slice gon m.gl.length gcn, .slice con m.co.length ccn, .slice xon m.ca.length xcn, .slice fon m.fn.length fcn, .int .i64 m.main]) rfl (by kernel_rfl) (by kernel_rfl) (by kernel_rfl) (fun _ _ _ h => h) (Or.inl ⟨by rfl, fun w hSw => by obtain ⟨t0, t1, t2, t3, t4, t5, t6, t7, t8, t9, t10, t11, t12, t13⟩ := hSw; go_simp⟩) (by assumption) ?_
    try simp only [Act.put, List.getElem_toArray, List.getElem_cons_zero, List.setIfInBounds_toArray, List.set_cons_zero, List.set_cons_succ]
    refine wpAnyH_take (i := 2) (v := .agg #[.slice sow m.sh.length scw, .slice gow m.gl.length gcw, .slice cow m.co.length ccw, .slice xow m.ca.length xcw, .slice fow m.fn.length fcw, .int .i64 m.main]) rfl (by kernel_rfl) (by kernel_rfl) (by kernel_rfl) (fun _ _ _ h => h) (Or.inl ⟨by rfl, fun w hSw => by obtain ⟨t0, t1, t2, t3, t4, t5, t6, t7, t8, t9, t10, t11, t12, t13⟩ := hSw; go_simp⟩) (by assumption) ?_
    try simp only [Act.put, List.getElem_toArray, List.getElem_cons_succ, List.getElem_cons_zero, List.setIfInBounds_toArray, List.set_cons_zero, List.set_cons_succ]
    refine wpAnyH_ready (rs := [1]) (by kernel_rfl) (by simp) ?_
    refine AllReadyH.cons rfl (fun K hK => ?_) AllReadyH.nil
    go_simp
    refine (unhide CM _ hHeld.1).mono ?_
    rintro e x2 ⟨v2, rfl, F2, hg2⟩
    go_wp2_with fail
    have gx2 := hHeld.1.trans hg2
    refine hK.out _ _ ⟨gx2, unhide KC _ gx2⟩ (fun hHeld2 => ?_)
    clear hK K hHeld
    try simp only [Act.put, List.getElem_toArray, List.getElem_cons_succ, List.getElem_cons_zero, List.setIfInBounds_toArray, List.set_cons_zero, List.set_cons_succ]
    replace F2 := hide F2
    refine wpAnyH_ready (rs := [3]) (by kernel_rfl) (by simp) ?_
    refine AllReadyH.cons rfl (fun K hK => ?_) AllReadyH.nil
    go_simp
    refine (unhide CS _ _ (unhide F2) gx2).mono ?_
    rintro e x3 ⟨rfl, hg3⟩
    go_wp2_with fail
    have gx3 := gx2.trans hg3
    refine hK.out _ _ ⟨gx3, unhide KC _ gx3⟩ (fun hHeld => ?_)
    clear hK K hHeld2 F2
    try simp only [Act.put, List.getElem_toArray, List.getElem_cons_succ, List.getElem_cons_zero, List.setIfInBounds_toArray, List.set_cons_zero, List.set_cons_succ]
    refine wpAnyH_take (i := 4) (v := .bool true) rfl (by kernel_rfl) (by kernel_rfl) (by kernel_rfl) (fun _ _ _ h => h) (Or.inl ⟨by rfl, fun w hSw => by obtain ⟨t0, t1, t2, t3, t4, t5, t6, t7, t8, t9, t10, t11, t12, t13⟩ := hSw; go_simp⟩) (by assumption) ?_
    try simp only [Act.put, List.getElem_toArray, List.getElem_cons_succ, List.getElem_cons_zero, List.setIfInBounds_toArray, List.set_cons_zero, List.set_cons_succ]
    refine wpAnyH_take (i := 5) (v := .bool false) rfl (by kernel_rfl) (by kernel_rfl) (by kernel_rfl) (fun _ _ _ h => h) (Or.inl ⟨by rfl, fun w hSw => by obtain ⟨t0, t1, t2, t3, t4, t5, t6, t7, t8, t9, t10, t11, t12, t13⟩ := hSw; go_simp⟩) (by assumption) ?_
    try simp only [Act.put, List.getElem_toArray, List.getElem_cons_succ, List.getElem_cons_zero, List.setIfInBounds_toArray, List.set_cons_zero, List.set_cons_succ]
    refine wpAnyH_take (i := 6) (v := .bool true) rfl (by kernel_rfl) (by kernel_rfl) (by kernel_rfl) (fun _ _ _ h => h) (Or.inl ⟨by rfl, fun w hSw => by obtain ⟨t0, t1, t2, t3, t4, t5, t6, t7, t8, t9, t10, t11, t12, t13⟩ := hSw; go_simp⟩) (by assumption) ?_
    try simp only [Act.put, List.getElem_toArray, List.getElem_cons_succ, List.getElem_cons_zero, List.setIfInBounds_toArray, List.set_cons_zero, List.set_cons_succ]
    refine wpAnyH_take (i := 7) (v := .bool true) rfl (by kernel_rfl) (by kernel_rfl) (by kernel_rfl) (fun _ _ _ h => h) (Or.inl ⟨by rfl, fun w hSw => by obtain ⟨t0, t1, t2, t3, t4, t5, t6, t7, t8, t9, t10, t11, t12, t13⟩ := hSw; go_simp⟩) (by assumption) ?_
    try simp only [Act.put, List.getElem_toArray, List.getElem_cons_succ, List.getElem_cons_zero, List.setIfInBounds_toArray, List.set_cons_zero, List.set_cons_succ]
    refine wpAnyH_take (i := 8) (v := undef) rfl (by kernel_rfl) (by kernel_rfl) (by kernel_rfl) (fun _ _ _ h => h) (Or.inr ⟨by rfl, rfl⟩) (by assumption) ?_
    try simp only [Act.put, List.getElem_toArray, List.getElem_cons_succ, List.getElem_cons_zero, List.setIfInBounds_toArray, List.set_cons_zero, List.set_cons_succ]
    refine wpAnyH_take (i := 9) (v := undef) rfl (by kernel_rfl) (by kernel_rfl) (by kernel_rfl) (fun _ _ _ h => h) (Or.inr ⟨by rfl, rfl⟩) (by assumption) ?_
    try simp only [Act.put, List.getElem_toArray, List.getElem_cons_succ, List.getElem_cons_zero, List.setIfInBounds_toArray, List.set_cons_zero, List.set_cons_succ]
    refine wpAnyH_take (i := 10) (v := undef) rfl (by kernel_rfl) (by kernel_rfl) (by kernel_rfl) (fun _ _ _ h => h) (Or.inr ⟨by rfl, rfl⟩) (by assumption) ?_
    try simp only [Act.put, List.getElem_toArray, List.getElem_cons_succ, List.getElem_cons_zero, List.setIfInBounds_toArray, List.set_cons_zero, List.set_cons_succ]
    refine wpAnyH_take (i := 11) (v := undef) rfl (by kernel_rfl) (by kernel_rfl) (by kernel_rfl) (fun _ _ _ h => h) (Or.inr ⟨by rfl, rfl⟩) (by assumption) ?_
    try simp only [Act.put, List.getElem_toArray, List.getElem_cons_succ, List.getElem_cons_zero, List.setIfInBounds_toArray, List.set_cons_zero, List.set_cons_succ]
    refine wpAnyH_take (i := 12) (v := undef) rfl (by kernel_rfl) (by kernel_rfl) (by kernel_rfl) (fun _ _ _ h => h) (Or.inr ⟨by rfl, rfl⟩) (by assumption) ?_
    try simp only [Act.put, List.getElem_toArray, List.getElem_cons_succ, List.getElem_cons_zero, List.setIfInBounds_toArray, List.set_cons_zero, List.set_cons_succ]
    refine wpAnyH_take (i := 13) (v := undef) rfl (by kernel_rfl) (by kernel_rfl) (by kernel_rfl) (fun _ _ _ h => h) (Or.inr ⟨by rfl, rfl⟩) (by assumption) ?_
    try simp only [Act.put, List.getElem_toArray, List.getElem_cons_succ, List.getElem_cons_zero, List.setIfInBounds_toArray, List.set_cons_zero, List.set_cons_succ]
    refine wpAnyH_take (i := 14) (v := .bool true) rfl (by kernel_rfl) (by kernel_rfl) (by kernel_rfl) (fun _ _ _ h => h) (Or.inl ⟨by rfl, fun w hSw => by obtain ⟨t0, t1, t2, t3, t4, t5, t6, t7, t8, t9, t10, t11, t12, t13⟩ := hSw; go_simp⟩) (by assumption) ?_
    try simp only [Act.put, List.getElem_toArray, List.getElem_cons_succ, List.getElem_cons_zero, List.setIfInBounds_toArray, List.set_cons_zero, List.set_cons_succ]
    refine wpAnyH_take (i := 15) (v := .bool true) rfl (by kernel_rfl) (by kernel_rfl) (by kernel_rfl) (fun _ _ _ h => h) (Or.inl ⟨by rfl, fun w hSw => by obtain ⟨t0, t1, t2, t3, t4, t5, t6, t7, t8, t9, t10, t11, t12, t13⟩ := hSw; go_simp⟩) (by assumption) ?_
    try simp only [Act.put, List.getElem_toArray, List.getElem_cons_succ, List.getElem_cons_zero, List.setIfInBounds_toArray, List.set_cons_zero, List.set_cons_succ]
    refine wpAnyH_take (i := 16) (v := .bool true) rfl (by kernel_rfl) (by kernel_rfl) (by kernel_rfl) (fun _ _ _ h => h) (Or.inl ⟨by rfl, fun w hSw => by obtain ⟨t0, t1, t2, t3, t4, t5, t6, t7, t8, t9, t10, t11, t12, t13⟩ := hSw; go_simp⟩) (by assumption) ?_
    try simp only [Act.put, List.getElem_toArray, List.getElem_cons_succ, List.getElem_cons_zero, List.setIfInBounds_toArray, List.set_cons_zero, List.set_cons_succ]
    refine wpAnyH_done (by kernel_rfl) (NoPanic.normal ?_) _
    have FIN := hide ((unhide G6).trans gx3)
    clear hHeld gx2 gx3
    go_wp2_with fail
    go_ret
    exact ⟨rfl, unhide FIN⟩

set_option maxRecDepth 100000 in
theorem lifted_CodeReads (os : Os) (started : os.Started) (H : Type) (enc : TypeId × Value → H) :
    ReturnsInHanded {} Tryd.checked os 4 .any (fun w args => (Rows.codeReadsSpec.pre enc Tryd.prog Tryd.f4 [] false w args ∧ laidMetH Tryd.prog laid9 w) ∧ sizedMet enc Tryd.prog Tryd.f4 (OpenSpec.ofChange Rows.codeReadsSpec) false w args)
      (Rows.codeReadsSpec.post enc Tryd.prog Tryd.f4 false true false false) := by
  refine returnsInHanded_of_change_and (C := Tryd.checked) (X := fun w _ => laidMetH Tryd.prog laid9 w) (fun _ _ _ hh h => h.of_heap hh) own started (by kernel_rfl) Tryd.func4
    (ChangeSpec.witness_shaped (enc := enc) (C := Tryd.checked) (os := os) (X := fun w _ => laidMetH Tryd.prog laid9 w) false (World.doorLaid Tryd.prog 400 os) #[.slice none 0 0] 8 rfl (World.shaped_of_RefB (by kernel_rfl) (by kernel_rfl)) (by kernel_rfl) (by kernel_rfl) (by kernel_rfl) (door_met os _)) ?_
  intro W base args ds gs before hval0 hW _ _ hL _
  have hval : ∀ (j : Nat) t v, Tryd.f4.params[j]? = some t → args[j]? = some v → Value.okWide Tryd.prog W .any base t v := hval0
  have hW' := hW
  obtain ⟨p, q, hA0, hV, rfl, hfz, hnd⟩ := hW
  have hA : DataW.TrodAll enc Tryd.prog W 0 (fun _ => true) true Tryd.f4.params.toList args.toList ds p := hA0
  rw [Tryd.params4] at hA hval
  obtain ⟨v0, vs0, d0, ds0, p0, q0, hargs, rfl, rfl, h0, r0⟩ := trodAll_cons hA
  obtain ⟨rfl, rfl, rfl⟩ := trodAll_nil r0
  obtain rfl : args = #[v0] := by cases args; simp_all
  obtain ⟨rfl, rfl⟩ := trodVars_none hV
  have k0 := h0
  have lt0 : ∀ x ∈ p0, x.block < W.heap.size := by obtain ⟨m, hm⟩ := k0; exact DataW.trod_lt m _ _ _ hm
  obtain ⟨a0, n0, c0, l0, rfl, w0⟩ := open_bytes (hval 0 31 v0 rfl rfl) h0
  clear hA0 hval0
  refine (walk_CodeReads a0 n0 c0 l0 W (tab_of_laid hL) w0).mono fun e W' ⟨he, hg⟩ => ?_
  subst he
  exact ⟨_, rfl, _, _, _, [], _, [], hW', trodAll_mk1 (shut_bool Tryd.underlying4 _), (trodAll_cons_mk (Below.trod laidOut (by kernel_rfl) (of_decide_eq_true (by kernel_rfl)) k0 hg lt0) trodAll_mk0), rfl, hg.frame _, fun h => by cases h⟩

theorem row_CodeReads : Rows.CodeReadsSaid :=
  OpenClaim.holds_of_wide 4 Tryd.f4 rfl rfl rfl rfl rfl rfl rfl ⟨rfl, rfl, rfl, rfl, rfl⟩ rfl rfl rfl rfl rfl (by kernel_rfl) Tryd.func4 (by kernel_rfl)
    (of_decide_eq_true (by kernel_rfl)) (by unfold Func.isWrapper; first | (rw [if_pos (by decide +kernel)]; kernel_rfl) | (rw [if_neg (by decide +kernel)]; exact ⟨rfl, rfl⟩))
    (fun os started H enc _ => lifted_CodeReads os started H enc)

/-- THE STATEMENT. -/
theorem card_CodeReads : Rows.CodeReadsCardSaid :=
  Claim7.holds_tied_plain_at .later [] [.data, .data, .data, .data] true (true, "3cd61b0ab25979e17df40103d35346b284331b92b4d749e33b439e5df481986c") false
    row_CodeReads (fun _ h => by cases h) (by kernel_rfl) (fun _ h => by cases h) codeReads_row_tie rfl ⟨rfl, rfl⟩ (by kernel_rfl) rfl
    (fun f fn hf hfn => by
      obtain rfl : f = 4 := Option.some.inj ((show Tryd.prog.funcNamed "gantline/gantlinelaw9.CodeReads" = some 4 by kernel_rfl).symm.trans hf) |>.symm
      obtain rfl : fn = Tryd.f4 := (Option.some.inj (Tryd.func4.symm.trans hfn)).symm
      exact ⟨by kernel_rfl, fun j t ht => by
        rw [Tryd.params4] at ht
        have hm : t ∈ [31] := by simpa using Array.mem_of_getElem? ht
        have hall : ([31].all fun u => !Tryd.prog.wantsStandIn u) = true := by kernel_rfl
        exact (show Tryd.prog.wantsStandIn t = false by simpa using List.all_eq_true.1 hall t hm)⟩)
    (by kernel_rfl)
#print axioms card_CodeReads
end Go.Proofs.YtdekhnfncecacaaDoor
