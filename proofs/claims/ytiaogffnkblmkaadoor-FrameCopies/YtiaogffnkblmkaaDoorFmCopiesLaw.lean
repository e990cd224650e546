/- FrameCopies: what is told of frames is new: what is done to it changes no stack; arguments that are handed in are not kept. No condition. -/
import Derived.Test.YtiaogffnkblmkaaDoorFmAwake2
import Derived.Test.YtiaogffnkblmkaaDoorCodeOpen
namespace Go.Proofs.YtiaogffnkblmkaaDoor
open Go.RowKit Go.Maps Go.ChangeShapes Go.WideShapes Go.ChangeAt Go.Deep

theorem AwS.put {W w : World} {B s : Nat} {v : Value} {L : List Fr} {KC : List (Addr × Value)} (h : AwS W w B s v L KC) (q i : Nat) (x : Value) (hq : ¬ SKb s v L q) (hW : W.heap.size ≤ q) : AwS W (w.setCell ⟨q, i, none⟩ x) B s v L [] :=
  ⟨h.sk.keep (fun k hk => heap_set _ _ (show k ≠ q from fun e => hq (e ▸ hk))), h.lo, by rw [World.size_setCell]; exact h.hB, h.g.set q i x hW, fun p hp => by cases hp⟩
theorem AwS.old {W w : World} {B s : Nat} {v : Value} {L : List Fr} {KC : List (Addr × Value)} (h : AwS W w B s v L KC) {q : Nat} (hq : q < B) : ¬ SKb s v L q := fun hb => by have := (h.sk.lt q hb).2; omega
theorem AwS.newer {W w : World} {B s : Nat} {v : Value} {L : List Fr} {KC : List (Addr × Value)} (h : AwS W w B s v L KC) {q : Nat} (hq : w.heap.size ≤ q) : ¬ SKb s v L q := fun hb => by have := (h.sk.lt q hb).1; omega
set_option maxHeartbeats 4000000 in
theorem copies_core (v u : Int) (W : World) (AW : Hid (Calls Tryd.prog 7 #[] W fun e w' => e = .returned (.bool true) ∧ G W w')) : Calls Tryd.prog 6 #[.int .i64 v, .int .i64 u] W fun e w' => e = .returned (.bool true) ∧ G W w' := by
  have TW := hide two_any
  have TG := hide two_g
  go_enter Tryd.func6, Tryd.ntmps6
  go_wp2_with fail
  refine (unhide AW).mono ?_
  rintro e w1 ⟨rfl, g1⟩
  have G1 := hide g1
  clear g1 AW
  go_wp2_with fail
  refine (unhide TW _).mono ?_
  rintro e w2 ⟨k2, i2, m2, f2, rfl, T2⟩
  have gs1 := T2.g.size
  rw [World.size_alloc] at gs1
  -- New over the box's module
  have NW : Hid (∀ o, Calls Tryd.prog 8 #[agTwo f2, .int .i64 0, .slice (some ⟨w1.heap.size, 0, none⟩) 1 1] (w2.alloc o) fun e w' => ∃ s vv sb, e = .returned (.tuple #[.pointer (some ⟨s, 0, none⟩), .int .i64 0]) ∧ AwS W w' (w2.heap.size + 1) s vv [⟨0, 0, sb, 2, [v, 0]⟩] [] ∧ G (w2.alloc o) w') := hide fun o => by
    have ga := G.alloc w2 o
    refine (new_ok (T2.mod.g ga) 0 two_at0 ((row_one w1 v).g okI (T2.g.trans ga)) two_tk two_op).mono ?_
    rintro e w' ⟨s, vv, sb, rfl, h1, h2⟩
    rw [World.size_alloc] at h1
    have gW := ((unhide G1).trans ((G.alloc w1 _).trans T2.g)).trans (ga.trans h2)
    have q1 := (unhide G1).size
    exact ⟨s, vv, sb, rfl, ⟨h1, by omega, by have := h2.size; rw [World.size_alloc] at this; exact this, gW, fun p hp => by cases hp⟩, h2⟩
  have hWs : W.heap.size ≤ w1.heap.size := (unhide G1).size
  have ca := T2.g.cell (x := ⟨w1.heap.size, 0, none⟩) (v := .int .i64 v) (by simp [go_sem])
  have fa : w2.frozen? ⟨w1.heap.size, 0, none⟩ = false := (World.frozen?_of_block (a := ⟨w1.heap.size, 0, none⟩) (T2.g.block _ (by show w1.heap.size < _; rw [World.size_alloc]; omega))).trans (by simp [go_sem])
  have cf : w2.cell? ⟨f2, 5, none⟩ = some (.slice (some ⟨i2, 0, none⟩) 2 2) := cell_of_row _ _ _ _ _ _ T2.hf
  have ff : w2.frozen? ⟨f2, 5, none⟩ = false := frozen_of_row _ _ _ _ _ T2.hf
  have hfl : w1.heap.size + 1 ≤ f2 := by have := T2.lo.2.2.2; rw [World.size_alloc] at this; exact this
  have hf2 : f2 < w2.heap.size := World.block_lt_of_cell? w2 _ cf
  have HB := hide (show w1.heap.size < w2.heap.size ∧ w1.heap.size + 1 ≤ f2 ∧ f2 < w2.heap.size ∧ W.heap.size ≤ w1.heap.size from ⟨by omega, hfl, hf2, hWs⟩)
  clear T2 gs1 hfl hWs
  unfold agTwo at NW ⊢
  go_wp2_with fail
  refine (unhide NW _).mono ?_
  rintro e w3 ⟨s, vv, sb, rfl, X3, g3⟩
  have ca3 := ((G.alloc w2 _).trans g3).cell ca
  have fa3 : w3.frozen? ⟨w1.heap.size, 0, none⟩ = false := (World.frozen?_of_block (a := ⟨w1.heap.size, 0, none⟩) (((G.alloc w2 _).trans g3).block _ (unhide HB).1)).trans fa
  have cf3 := ((G.alloc w2 _).trans g3).cell cf
  have ff3 : w3.frozen? ⟨f2, 5, none⟩ = false := (World.frozen?_of_block (a := ⟨f2, 5, none⟩) (((G.alloc w2 _).trans g3).block _ hf2)).trans ff
  have mb3 := g3.cell (x := ⟨w2.heap.size, 4, none⟩) (v := .slice (some ⟨f2, 0, none⟩) 1 1) (by simp [go_sem])
  have X4 := hide (X3.put w1.heap.size 0 (.int .i64 u) (X3.old (by have := unhide HB; omega)) (unhide HB).2.2.2)
  have hs3 : w2.heap.size + 1 ≤ w3.heap.size := by have := g3.size; rw [World.size_alloc] at this; exact this
  have cf4 : (w3.setCell ⟨w1.heap.size, 0, none⟩ (.int .i64 u)).cell? ⟨f2, 5, none⟩ = some (.slice (some ⟨i2, 0, none⟩) 2 2) := (cell_other _ (Or.inl (by have := unhide HB; omega))).trans cf3
  have ff4 : (w3.setCell ⟨w1.heap.size, 0, none⟩ (.int .i64 u)).frozen? ⟨f2, 5, none⟩ = false := (World.frozen?_setCell _ _ _ _).trans ff3
  have mb4 : (w3.setCell ⟨w1.heap.size, 0, none⟩ (.int .i64 u)).cell? ⟨w2.heap.size, 4, none⟩ = some (.slice (some ⟨f2, 0, none⟩) 1 1) := (cell_other _ (Or.inl (by have := unhide HB; omega))).trans mb3
  obtain ⟨w4, hw4⟩ : ∃ w4, w4 = w3.setCell ⟨w1.heap.size, 0, none⟩ (.int .i64 u) := ⟨_, rfl⟩
  rw [← hw4] at X4 cf4 ff4 mb4
  have hs4 : w2.heap.size + 1 ≤ w4.heap.size := by rw [hw4, World.size_setCell]; exact hs3
  clear X3 g3 NW cf3 ff3 mb3 cf ff ca fa
  go_upto_region 9 with fail
  rw [← hw4]
  clear hw4 ca3 fa3 hs3
  go_wp2_with fail
  refine (a_top (L := []) (unhide X4) (by simp) v 0 rfl).mono ?_
  rintro e w5 ⟨tb, tc, rfl, X5, htb, ho5, g5⟩
  have t0 : w5.cell? ⟨tb, 0, none⟩ = some (.int .i64 v) := World.ownsRow.cellAt ho5 0 (by simp)
  have t1 : w5.cell? ⟨tb, 1, none⟩ = some (.int .i64 0) := World.ownsRow.cellAt ho5 1 (by simp)
  have tf0 : w5.frozen? ⟨tb, 0, none⟩ = false := World.ownsRow.frozenAt ho5 0
  have tf1 : w5.frozen? ⟨tb, 1, none⟩ = false := World.ownsRow.frozenAt ho5 1
  have htl : tb < w5.heap.size := own_lt ho5
  have cf5 := g5.cell cf4
  have ff5 : w5.frozen? ⟨f2, 5, none⟩ = false := (World.frozen?_of_block (a := ⟨f2, 5, none⟩) (g5.block _ (by show f2 < _; omega))).trans ff4
  have mb5 := g5.cell mb4
  have hns5 : ¬ SKb s vv [⟨0, 0, sb, 2, [v, 0]⟩] tb := (unhide X4).newer htb
  have hWtb : W.heap.size ≤ tb := by have := unhide HB; omega
  have hs5 : w2.heap.size + 1 ≤ w5.heap.size := Nat.le_trans hs4 g5.size
  have hne5 : w2.heap.size + 1 ≤ tb := Nat.le_trans hs4 htb
  replace X5 := hide X5
  clear ho5 g5 cf4 ff4 mb4 X4 htb hs4
  unfold agFr
  have X6 := hide ((((unhide X5).put tb 0 (.int .i64 u) hns5 hWtb).put tb 1 (.int .i64 9) hns5 hWtb).gr (G.alloc _ (.cells #[.int .i64 0, .int .i64 0, .slice (some ⟨tb, 0, none⟩) 2 tc] 46)))
  have cf6 : (((w5.setCell ⟨tb, 0, none⟩ (.int .i64 u)).setCell ⟨tb, 1, none⟩ (.int .i64 9)).alloc (.cells #[.int .i64 0, .int .i64 0, .slice (some ⟨tb, 0, none⟩) 2 tc] 46)).cell? ⟨f2, 5, none⟩ = some (.slice (some ⟨i2, 0, none⟩) 2 2) :=
    (G.alloc _ _).cell ((cell_other _ (Or.inl (by omega))).trans ((cell_other _ (Or.inl (by omega))).trans cf5))
  have mb6 : (((w5.setCell ⟨tb, 0, none⟩ (.int .i64 u)).setCell ⟨tb, 1, none⟩ (.int .i64 9)).alloc (.cells #[.int .i64 0, .int .i64 0, .slice (some ⟨tb, 0, none⟩) 2 tc] 46)).cell? ⟨w2.heap.size, 4, none⟩ = some (.slice (some ⟨f2, 0, none⟩) 1 1) :=
    (G.alloc _ _).cell ((cell_other _ (Or.inl (by omega))).trans ((cell_other _ (Or.inl (by omega))).trans mb5))
  have ff6 : (((w5.setCell ⟨tb, 0, none⟩ (.int .i64 u)).setCell ⟨tb, 1, none⟩ (.int .i64 9)).alloc (.cells #[.int .i64 0, .int .i64 0, .slice (some ⟨tb, 0, none⟩) 2 tc] 46)).frozen? ⟨f2, 5, none⟩ = false :=
    (World.frozen?_of_block (a := ⟨f2, 5, none⟩) ((G.alloc _ _).block _ (by show f2 < _; rw [World.size_setCell, World.size_setCell]; omega))).trans ((World.frozen?_setCell _ _ _ _).trans ((World.frozen?_setCell _ _ _ _).trans ff5))
  obtain ⟨w6, hw6⟩ : ∃ w6, w6 = ((w5.setCell ⟨tb, 0, none⟩ (.int .i64 u)).setCell ⟨tb, 1, none⟩ (.int .i64 9)).alloc (.cells #[.int .i64 0, .int .i64 0, .slice (some ⟨tb, 0, none⟩) 2 tc] 46) := ⟨_, rfl⟩
  rw [← hw6] at X6 cf6 mb6 ff6
  have hs6 : w2.heap.size + 1 ≤ w6.heap.size := by rw [hw6, World.size_alloc, World.size_setCell, World.size_setCell]; omega
  clear cf5 ff5 mb5 hns5 hWtb hne5 X5
  go_upto_region 12 with fail
  rw [← hw6]
  clear hw6 t0 t1 tf0 tf1 htl hs5
  go_wp2_with fail
  refine (a_frames (unhide X6) (by simp) (fun f hf => by simp at hf; subst hf; simp) 1 rfl (by decide)).mono ?_
  rintro e w7 ⟨kb, kc, L', rfl, X7, R7, hp7, g7⟩
  obtain ⟨f', rfl, hsl⟩ : ∃ f', L' = [f'] ∧ f'.sl = [v, 0] := by
    match L', hp7 with
    | [f'], hp7 =>
      refine ⟨f', rfl, ?_⟩
      simp [pf] at hp7
      exact hp7.2.2
  have hgt := R7.get (i := 0) (f := f') rfl
  rw [hsl] at hgt
  have p1 : w7.cell? ⟨kb, 1, none⟩ = some (.int .i64 f'.pc) := hgt.2.1
  have p2 : w7.cell? ⟨kb, 2, none⟩ = some (.slice (some ⟨f'.sb, 0, none⟩) 2 f'.sc) := hgt.2.2
  have p3 : w7.cell? ⟨f'.sb, 0, none⟩ = some (.int .i64 v) := R7.slot (f := f') (by simp) (j := 0) (by rw [hsl]; rfl)
  have pf1 : w7.frozen? ⟨kb, 1, none⟩ = false := R7.fro 1
  have pf3 : w7.frozen? ⟨f'.sb, 0, none⟩ = false := R7.sfro (by simp) 0
  have hkb := (R7.lt kb (Or.inl rfl))
  have hsb := (R7.lt f'.sb (Or.inr ⟨f', by simp, rfl⟩))
  have hne : f'.sb ≠ kb := R7.kb kb rfl f' (by simp)
  obtain ⟨fn', pc', sb', sc', sl'⟩ := f'
  simp only at p1 p2 p3 pf3 hsb hne
  have hne2 : ¬ kb = sb' := fun e => hne e.symm
  have cf7 := g7.cell cf6
  have mb7 := g7.cell mb6
  have ff7 : w7.frozen? ⟨f2, 5, none⟩ = false := (World.frozen?_of_block (a := ⟨f2, 5, none⟩) (g7.block _ (by show f2 < _; omega))).trans ff6
  have nk : ¬ SKb s vv [⟨0, 0, sb, 2, [v, 0]⟩] kb := (unhide X6).newer hkb.2
  have nb : ¬ SKb s vv [⟨0, 0, sb, 2, [v, 0]⟩] sb' := (unhide X6).newer hsb.2
  have nf : ¬ SKb s vv [⟨0, 0, sb, 2, [v, 0]⟩] f2 := X7.old (by omega)
  have hW : W.heap.size ≤ kb ∧ W.heap.size ≤ sb' ∧ W.heap.size ≤ f2 := by have := unhide HB; omega
  have hd1 : ¬ f2 = sb' := by omega
  have hd2 : ¬ f2 = kb := by omega
  have hd3 : ¬ w2.heap.size = sb' := by omega
  have hd4 : ¬ w2.heap.size = kb := by omega
  have hd5 : ¬ w2.heap.size = f2 := by omega
  have hm2 : w2.heap.size < w7.heap.size := World.block_lt_of_cell? w7 _ mb7
  have hkl := hkb.1
  have hsl' := hsb.1
  have hfl' : f2 < w7.heap.size := World.block_lt_of_cell? w7 _ cf7
  have X8 := hide ((((X7.put sb' 0 (.int .i64 u) nb hW.2.1).put kb 1 (.int .i64 1) nk hW.1).put f2 5 (.slice (some ⟨w7.heap.size, 0, none⟩) 0 0) nf hW.2.2).gr (G.alloc _ (.cells #[] 60)))
  clear X6 X7 R7 hp7 hgt g7 cf6 mb6 ff6 nk nb nf hW hkb hsb hne hsl HB
  obtain ⟨w8, hw8⟩ : ∃ w8, w8 = (((w7.setCell ⟨sb', 0, none⟩ (.int .i64 u)).setCell ⟨kb, 1, none⟩ (.int .i64 1)).setCell ⟨f2, 5, none⟩ (.slice (some ⟨w7.heap.size, 0, none⟩) 0 0)).alloc (.cells #[] 60) := ⟨_, rfl⟩
  rw [← hw8] at X8
  go_upto_region 16 with fail
  rw [← hw8]
  clear hw8 p1 p2 p3 pf1 pf3 cf7 mb7 ff7 hd1 hd2 hd3 hd4 hd5 hm2 hkl hsl' hfl' hne2
  go_wp2_with fail
  refine (unhide TG _).mono ?_
  rintro e w9 ⟨fb9, rfl, m9, g9⟩
  have X9 := hide (show _ ∧ _ from ⟨(unhide X8).gr g9, m9⟩)
  clear m9 g9 X8
  unfold agTwo
  go_wp2_with fail
  refine (a_at (unhide X9).1 (unhide X9).2).mono ?_
  rintro e w10 ⟨rfl, X10, _⟩
  have X11 := hide (X10.add (X10.gr (G.alloc w10 (.cells #[.int .i64 43, .int .i64 0, .int .i64 0, .int .i64 0, .int .i64 0] 60))) ⟨w10.heap.size, 0, none⟩ (.int .i64 43) (by simp [go_sem]) (Nat.le_refl _))
  clear X9 X10
  go_wp2_with fail
  refine (a_get (unhide X11) (by simp) 0 v rfl).mono ?_
  rintro e w12 ⟨rfl, X12⟩
  replace X12 := hide X12
  clear X11
  go_wp2_with fail
  refine (a_get (unhide X12) (by simp) 1 0 rfl).mono ?_
  rintro e w13 ⟨rfl, X13⟩
  have c43 := (X13.kc _ (List.mem_cons_self)).1
  simp only at c43
  have G13 := hide X13.g
  clear X12 X13
  go_wp2_with fail
  go_ret
  exact ⟨rfl, unhide G13⟩
theorem walk_FrameCopies (v u : Int) (W : World) (hL : laidMetH Tryd.prog laid9 W) (_ : oI v) (_ : oI u) : Calls Tryd.prog 6 #[.int .i64 v, .int .i64 u] W fun e w' => e = .returned (.bool true) ∧ G W w' :=
  copies_core v u W (hide (awake13 W (rows_of_laid hL)))

set_option maxRecDepth 100000 in
theorem lifted_FrameCopies (os : Os) (started : os.Started) (H : Type) (enc : TypeId × Value → H) :
    ReturnsInHanded {} Tryd.checked os 6 .any (fun w args => (Rows.frameCopiesSpec.pre enc Tryd.prog Tryd.f6 [] false w args ∧ laidMetH Tryd.prog laid9 w) ∧ sizedMet enc Tryd.prog Tryd.f6 (OpenSpec.ofChange Rows.frameCopiesSpec) false w args)
      (Rows.frameCopiesSpec.post enc Tryd.prog Tryd.f6 false true false false) := by
  refine returnsInHanded_of_change_and (C := Tryd.checked) (X := fun w _ => laidMetH Tryd.prog laid9 w) (fun _ _ _ hh h => h.of_heap hh) own started (by kernel_rfl) Tryd.func6
    (ChangeSpec.witness_shaped (enc := enc) (C := Tryd.checked) (os := os) (X := fun w _ => laidMetH Tryd.prog laid9 w) false (World.doorLaid Tryd.prog 400 os) #[.int .i64 0, .int .i64 0] 8 rfl (World.shaped_of_RefB (by kernel_rfl) (by kernel_rfl)) (by kernel_rfl) (by kernel_rfl) (by kernel_rfl) (door_met os _)) ?_
  intro W base args ds gs before hval0 hW _ _ hL _
  have hval : ∀ (j : Nat) t v, Tryd.f6.params[j]? = some t → args[j]? = some v → Value.okWide Tryd.prog W .any base t v := hval0
  have hW' := hW
  obtain ⟨p, q, hA0, hV, rfl, hfz, hnd⟩ := hW
  have hA : DataW.TrodAll enc Tryd.prog W 0 (fun _ => true) true Tryd.f6.params.toList args.toList ds p := hA0
  rw [Tryd.params6] at hA hval
  obtain ⟨v0, vs0, d0, ds0, p0, q0, hargs, rfl, rfl, h0, r0⟩ := trodAll_cons hA
  obtain ⟨v1, vs1, d1, ds1, p1, q1, rfl, rfl, rfl, h1, r1⟩ := trodAll_cons r0
  obtain ⟨rfl, rfl, rfl⟩ := trodAll_nil r1
  obtain rfl : args = #[v0, v1] := by cases args; simp_all
  obtain ⟨rfl, rfl⟩ := trodVars_none hV
  have k0 := h0
  have lt0 : ∀ x ∈ p0, x.block < W.heap.size := by obtain ⟨m, hm⟩ := k0; exact DataW.trod_lt m _ _ _ hm
  obtain ⟨a0, rfl, rfl, rfl, w0⟩ := open_int Tryd.underlying2 (hval 0 2 v0 rfl rfl) h0
  have k1 := h1
  have lt1 : ∀ x ∈ p1, x.block < W.heap.size := by obtain ⟨m, hm⟩ := k1; exact DataW.trod_lt m _ _ _ hm
  obtain ⟨a1, rfl, rfl, rfl, w1⟩ := open_int Tryd.underlying2 (hval 1 2 v1 rfl rfl) h1
  clear hA0 hval0
  refine (walk_FrameCopies a0 a1 W hL (oI_wf w0) (oI_wf w1)).mono fun e W' ⟨he, hg⟩ => ?_
  subst he
  exact ⟨_, rfl, _, _, _, [], _, [], hW', trodAll_mk1 (shut_bool Tryd.underlying4 _), (trodAll_cons_mk (Below.trod laidOut (by kernel_rfl) (of_decide_eq_true (by kernel_rfl)) k0 hg lt0) (trodAll_cons_mk (Below.trod laidOut (by kernel_rfl) (of_decide_eq_true (by kernel_rfl)) k1 hg lt1) trodAll_mk0)), rfl, hg.frame _, fun h => by cases h⟩

theorem row_FrameCopies : Rows.FrameCopiesSaid :=
  OpenClaim.holds_of_wide 6 Tryd.f6 rfl rfl rfl rfl rfl rfl rfl ⟨rfl, rfl, rfl, rfl, rfl⟩ rfl rfl rfl rfl rfl (by kernel_rfl) Tryd.func6 (by kernel_rfl)
    (of_decide_eq_true (by kernel_rfl)) (by unfold Func.isWrapper; first | (rw [if_pos (by decide +kernel)]; kernel_rfl) | (rw [if_neg (by decide +kernel)]; exact ⟨rfl, rfl⟩))
    (fun os started H enc _ => lifted_FrameCopies os started H enc)

/-- THE STATEMENT. -/
theorem card_FrameCopies : Rows.FrameCopiesCardSaid :=
  Claim7.holds_tied_plain_at .later [] [.data] true (true, "8ddf49a22e35645a40b29dea95ad2e9610f848324a67b63f58e7a1b6c512da97") false
    row_FrameCopies (fun _ h => by cases h) (by kernel_rfl) (fun _ h => by cases h) frameCopies_row_tie rfl ⟨rfl, rfl⟩ (by kernel_rfl) rfl
    (fun f fn hf hfn => by
      obtain rfl : f = 6 := Option.some.inj ((show Tryd.prog.funcNamed "gantline/gantlinelaw13.FrameCopies" = some 6 by kernel_rfl).symm.trans hf) |>.symm
      obtain rfl : fn = Tryd.f6 := (Option.some.inj (Tryd.func6.symm.trans hfn)).symm
      exact ⟨by kernel_rfl, fun j t ht => by
        rw [Tryd.params6] at ht
        have hm : t ∈ [2, 2] := by simpa using Array.mem_of_getElem? ht
        have hall : ([2, 2].all fun u => !Tryd.prog.wantsStandIn u) = true := by kernel_rfl
        exact (show Tryd.prog.wantsStandIn t = false by simpa using List.all_eq_true.1 hall t hm)⟩)
    (by kernel_rfl)
#print axioms card_FrameCopies
end Go.Proofs.YtiaogffnkblmkaaDoor
