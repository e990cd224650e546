/- CodeNames of gantlinelaw9: for every instruction the law answers true; nothing that was there is turned. -/
import Derived.Test.YtfbochlohalimaaDoorCodeRShow
namespace Go.Proofs.YtfbochlohalimaaDoor
set_option maxRecDepth 100000
open Go.RowKit Go.Maps Go.ChangeShapes Go.WideShapes Go.ChangeAt Go.Deep

set_option maxHeartbeats 4000000 in
theorem walk_names (i : In) (hi : oIn i) (w : World) (ht : Tab9 w) :
    Calls Tryd.prog 4 #[.agg #[.int .i64 i.op, .int .i64 i.a, .int .i64 i.b, .int .i64 i.c, .int .i64 i.d]] w fun e w' => e = .returned (.bool true) ∧ G w w' := by
  have AW := hide (fun x (g : G w x) => awake_any x (ht.g g))
  have TT := hide (fun x (g : G w x) => ht.g g)
  obtain ⟨nm, hnm⟩ : ∃ nm : ByteArray, nm = ⟨(rwOf i.op).nm.toArray⟩ := ⟨_, rfl⟩
  obtain ⟨sh, hsh⟩ : ∃ sh : ByteArray, sh = ⟨(showP i).toArray⟩ := ⟨_, rfl⟩
  obtain ⟨pt, hpt⟩ : ∃ pt : Bool, pt = (rwOf i.op).pt := ⟨_, rfl⟩
  obtain ⟨mk, hmk⟩ : ∃ mk : Bool, mk = (rwOf i.op).mkr := ⟨_, rfl⟩
  have nn : (nm.toList == nm.toList) = true := by simp
  have ss : (sh.toList == sh.toList) = true := by simp
  have pp : (pt == pt) = true := by simp
  have mm : (mk == mk) = true := by simp
  clear ht
  go_enter Tryd.func4, Tryd.ntmps4
  go_wp2_with fail
  refine (unhide AW _ ((G.refl w).more _)).mono ?_
  rintro e w1 ⟨rfl, g1⟩
  have c0 := g1.cell (x := ⟨w.heap.size, 0, none⟩) (v := .int .i64 i.op) (by simp [go_sem])
  have c1 := g1.cell (x := ⟨w.heap.size, 1, none⟩) (v := .int .i64 i.a) (by simp [go_sem])
  have c2 := g1.cell (x := ⟨w.heap.size, 2, none⟩) (v := .int .i64 i.b) (by simp [go_sem])
  have c3 := g1.cell (x := ⟨w.heap.size, 3, none⟩) (v := .int .i64 i.c) (by simp [go_sem])
  have c4 := g1.cell (x := ⟨w.heap.size, 4, none⟩) (v := .int .i64 i.d) (by simp [go_sem])
  have FIN := hide (fun x (gx : G w1 x) => (((G.refl w).more _).trans g1).trans gx)
  have TB : ∀ x, G w1 x → Tab9 x := fun x gx => unhide TT x (unhide FIN x gx)
  have KP : Hid (∀ x, G w1 x → G w1 x ∧ x.cell? ⟨w.heap.size, 0, none⟩ = some (.int .i64 i.op) ∧ x.cell? ⟨w.heap.size, 1, none⟩ = some (.int .i64 i.a) ∧ x.cell? ⟨w.heap.size, 2, none⟩ = some (.int .i64 i.b) ∧ x.cell? ⟨w.heap.size, 3, none⟩ = some (.int .i64 i.c) ∧ x.cell? ⟨w.heap.size, 4, none⟩ = some (.int .i64 i.d)) := hide fun x gx => ⟨gx, gx.cell c0, gx.cell c1, gx.cell c2, gx.cell c3, gx.cell c4⟩
  have KC : Hid (∀ x x2, G x x2 → (G w1 x ∧ x.cell? ⟨w.heap.size, 0, none⟩ = some (.int .i64 i.op) ∧ x.cell? ⟨w.heap.size, 1, none⟩ = some (.int .i64 i.a) ∧ x.cell? ⟨w.heap.size, 2, none⟩ = some (.int .i64 i.b) ∧ x.cell? ⟨w.heap.size, 3, none⟩ = some (.int .i64 i.c) ∧ x.cell? ⟨w.heap.size, 4, none⟩ = some (.int .i64 i.d)) → (G w1 x2 ∧ x2.cell? ⟨w.heap.size, 0, none⟩ = some (.int .i64 i.op) ∧ x2.cell? ⟨w.heap.size, 1, none⟩ = some (.int .i64 i.a) ∧ x2.cell? ⟨w.heap.size, 2, none⟩ = some (.int .i64 i.b) ∧ x2.cell? ⟨w.heap.size, 3, none⟩ = some (.int .i64 i.c) ∧ x2.cell? ⟨w.heap.size, 4, none⟩ = some (.int .i64 i.d))) := hide fun x x2 hg hs => unhide KP x2 (hs.1.trans hg)
  have CN1 : Hid (∀ x, (G w1 x ∧ x.cell? ⟨w.heap.size, 0, none⟩ = some (.int .i64 i.op) ∧ x.cell? ⟨w.heap.size, 1, none⟩ = some (.int .i64 i.a) ∧ x.cell? ⟨w.heap.size, 2, none⟩ = some (.int .i64 i.b) ∧ x.cell? ⟨w.heap.size, 3, none⟩ = some (.int .i64 i.c) ∧ x.cell? ⟨w.heap.size, 4, none⟩ = some (.int .i64 i.d)) → Calls Tryd.prog 12 #[.int .i64 i.op] x fun e w' => e = .returned (.string nm) ∧ G x w') := hide fun x hs => by rw [hnm]; exact name_any x i.op (TB x hs.1).1
  have CN2 : Hid (∀ x, (G w1 x ∧ x.cell? ⟨w.heap.size, 0, none⟩ = some (.int .i64 i.op) ∧ x.cell? ⟨w.heap.size, 1, none⟩ = some (.int .i64 i.a) ∧ x.cell? ⟨w.heap.size, 2, none⟩ = some (.int .i64 i.b) ∧ x.cell? ⟨w.heap.size, 3, none⟩ = some (.int .i64 i.c) ∧ x.cell? ⟨w.heap.size, 4, none⟩ = some (.int .i64 i.d)) → Calls Tryd.prog 15 #[.int .i64 i.op] x fun e w' => e = .returned (.string nm) ∧ G x w') := hide fun x hs => by rw [hnm]; exact rname_any x i.op
  have CP1 : Hid (∀ x, (G w1 x ∧ x.cell? ⟨w.heap.size, 0, none⟩ = some (.int .i64 i.op) ∧ x.cell? ⟨w.heap.size, 1, none⟩ = some (.int .i64 i.a) ∧ x.cell? ⟨w.heap.size, 2, none⟩ = some (.int .i64 i.b) ∧ x.cell? ⟨w.heap.size, 3, none⟩ = some (.int .i64 i.c) ∧ x.cell? ⟨w.heap.size, 4, none⟩ = some (.int .i64 i.d)) → Calls Tryd.prog 16 #[.int .i64 i.op] x fun e w' => e = .returned (.bool pt) ∧ G x w') := hide fun x hs => by rw [hpt]; exact point_any x i.op (TB x hs.1).1
  have CP2 : Hid (∀ x, (G w1 x ∧ x.cell? ⟨w.heap.size, 0, none⟩ = some (.int .i64 i.op) ∧ x.cell? ⟨w.heap.size, 1, none⟩ = some (.int .i64 i.a) ∧ x.cell? ⟨w.heap.size, 2, none⟩ = some (.int .i64 i.b) ∧ x.cell? ⟨w.heap.size, 3, none⟩ = some (.int .i64 i.c) ∧ x.cell? ⟨w.heap.size, 4, none⟩ = some (.int .i64 i.d)) → Calls Tryd.prog 17 #[.int .i64 i.op] x fun e w' => e = .returned (.bool pt) ∧ G x w') := hide fun x hs => by rw [hpt]; exact (rpoint_any x i.op).mono fun e w' h => ⟨h.1, by rw [h.2]; exact G.refl _⟩
  have CM1 : Hid (∀ x, (G w1 x ∧ x.cell? ⟨w.heap.size, 0, none⟩ = some (.int .i64 i.op) ∧ x.cell? ⟨w.heap.size, 1, none⟩ = some (.int .i64 i.a) ∧ x.cell? ⟨w.heap.size, 2, none⟩ = some (.int .i64 i.b) ∧ x.cell? ⟨w.heap.size, 3, none⟩ = some (.int .i64 i.c) ∧ x.cell? ⟨w.heap.size, 4, none⟩ = some (.int .i64 i.d)) → Calls Tryd.prog 18 #[.int .i64 i.op] x fun e w' => e = .returned (.bool mk) ∧ G x w') := hide fun x hs => by rw [hmk]; exact maker_any x i.op (TB x hs.1).1
  have CM2 : Hid (∀ x, (G w1 x ∧ x.cell? ⟨w.heap.size, 0, none⟩ = some (.int .i64 i.op) ∧ x.cell? ⟨w.heap.size, 1, none⟩ = some (.int .i64 i.a) ∧ x.cell? ⟨w.heap.size, 2, none⟩ = some (.int .i64 i.b) ∧ x.cell? ⟨w.heap.size, 3, none⟩ = some (.int .i64 i.c) ∧ x.cell? ⟨w.heap.size, 4, none⟩ = some (.int .i64 i.d)) → Calls Tryd.prog 19 #[.int .i64 i.op] x fun e w' => e = .returned (.bool mk) ∧ G x w') := hide fun x hs => by rw [hmk]; exact (rmaker_any x i.op).mono fun e w' h => ⟨h.1, by rw [h.2]; exact G.refl _⟩
  have CS1 : Hid (∀ x, (G w1 x ∧ x.cell? ⟨w.heap.size, 0, none⟩ = some (.int .i64 i.op) ∧ x.cell? ⟨w.heap.size, 1, none⟩ = some (.int .i64 i.a) ∧ x.cell? ⟨w.heap.size, 2, none⟩ = some (.int .i64 i.b) ∧ x.cell? ⟨w.heap.size, 3, none⟩ = some (.int .i64 i.c) ∧ x.cell? ⟨w.heap.size, 4, none⟩ = some (.int .i64 i.d)) → Calls Tryd.prog 13 #[.agg #[.int .i64 i.op, .int .i64 i.a, .int .i64 i.b, .int .i64 i.c, .int .i64 i.d]] x fun e w' => e = .returned (.string sh) ∧ G x w') := hide fun x hs => by rw [hsh]; exact show_any x i hi (TB x hs.1)
  have CI1 : Hid (∀ x, (G w1 x ∧ x.cell? ⟨w.heap.size, 0, none⟩ = some (.int .i64 i.op) ∧ x.cell? ⟨w.heap.size, 1, none⟩ = some (.int .i64 i.a) ∧ x.cell? ⟨w.heap.size, 2, none⟩ = some (.int .i64 i.b) ∧ x.cell? ⟨w.heap.size, 3, none⟩ = some (.int .i64 i.c) ∧ x.cell? ⟨w.heap.size, 4, none⟩ = some (.int .i64 i.d)) → Calls Tryd.prog 21 #[.agg #[.int .i64 i.op, .int .i64 i.a, .int .i64 i.b, .int .i64 i.c, .int .i64 i.d]] x fun e w' => e = .returned (.agg #[.int .i64 i.op, .int .i64 i.a, .int .i64 i.b, .int .i64 i.c, .int .i64 i.d]) ∧ G x w') := hide fun x hs => rinstr_any x i
  have CS2 : Hid (∀ x, (G w1 x ∧ x.cell? ⟨w.heap.size, 0, none⟩ = some (.int .i64 i.op) ∧ x.cell? ⟨w.heap.size, 1, none⟩ = some (.int .i64 i.a) ∧ x.cell? ⟨w.heap.size, 2, none⟩ = some (.int .i64 i.b) ∧ x.cell? ⟨w.heap.size, 3, none⟩ = some (.int .i64 i.c) ∧ x.cell? ⟨w.heap.size, 4, none⟩ = some (.int .i64 i.d)) → Calls Tryd.prog 20 #[.agg #[.int .i64 i.op, .int .i64 i.a, .int .i64 i.b, .int .i64 i.c, .int .i64 i.d]] x fun e w' => e = .returned (.string sh) ∧ G x w') := hide fun x hs => by rw [hsh]; exact rshow_any x i hi
  have KD : Hid (G w1 w1.drew ∧ w1.drew.cell? ⟨w.heap.size, 0, none⟩ = some (.int .i64 i.op) ∧ w1.drew.cell? ⟨w.heap.size, 1, none⟩ = some (.int .i64 i.a) ∧ w1.drew.cell? ⟨w.heap.size, 2, none⟩ = some (.int .i64 i.b) ∧ w1.drew.cell? ⟨w.heap.size, 3, none⟩ = some (.int .i64 i.c) ∧ w1.drew.cell? ⟨w.heap.size, 4, none⟩ = some (.int .i64 i.d)) := hide (unhide KP _ ((G.refl w1).drew))
  clear hnm hsh hpt hmk TB TT AW g1
  go_wp2_with fail
  go_region_held3 (fun x => G w1 x ∧ x.cell? ⟨w.heap.size, 0, none⟩ = some (.int .i64 i.op) ∧ x.cell? ⟨w.heap.size, 1, none⟩ = some (.int .i64 i.a) ∧ x.cell? ⟨w.heap.size, 2, none⟩ = some (.int .i64 i.b) ∧ x.cell? ⟨w.heap.size, 3, none⟩ = some (.int .i64 i.c) ∧ x.cell? ⟨w.heap.size, 4, none⟩ = some (.int .i64 i.d))
    (first | assumption | exact unhide KD | exact unhide KC _ _ (by assumption) (by assumption))
    ((first
      | (go_at_call 12; refine (unhide CN1 _ ?_).mono ?_; assumption; rintro e x2 ⟨rfl, hg2⟩)
      | (go_at_call 15; refine (unhide CN2 _ ?_).mono ?_; assumption; rintro e x3 ⟨rfl, hg3⟩)
      | (go_at_call 16; refine (unhide CP1 _ ?_).mono ?_; assumption; rintro e x4 ⟨rfl, hg4⟩)
      | (go_at_call 17; refine (unhide CP2 _ ?_).mono ?_; assumption; rintro e x5 ⟨rfl, hg5⟩)
      | (go_at_call 18; refine (unhide CM1 _ ?_).mono ?_; assumption; rintro e x6 ⟨rfl, hg6⟩)
      | (go_at_call 19; refine (unhide CM2 _ ?_).mono ?_; assumption; rintro e x7 ⟨rfl, hg7⟩)
      | (go_at_call 13; refine (unhide CS1 _ ?_).mono ?_; assumption; rintro e x8 ⟨rfl, hg8⟩)
      | (go_at_call 21; refine (unhide CI1 _ ?_).mono ?_; assumption; rintro e x9 ⟨rfl, hg9⟩)
      | (go_at_call 20; refine (unhide CS2 _ ?_).mono ?_; assumption; rintro e x10 ⟨rfl, hg10⟩)))
  all_goals
    go_wp2_with fail
    go_ret
    exact ⟨rfl, unhide FIN _ (by assumption : G w1 _ ∧ _).1⟩
theorem walk_CodeNames (i : In) (w : World) (ht : Tab9 w) (hi : oIn i) : Calls Tryd.prog 4 #[.agg #[.int .i64 i.op, .int .i64 i.a, .int .i64 i.b, .int .i64 i.c, .int .i64 i.d]] w fun e w' => e = .returned (.bool true) ∧ G w w' := walk_names i hi w ht

set_option maxRecDepth 100000 in
theorem lifted_CodeNames (os : Os) (started : os.Started) (H : Type) (enc : TypeId × Value → H) :
    ReturnsInHanded {} Tryd.checked os 4 .any (fun w args => (Rows.codeNamesSpec.pre enc Tryd.prog Tryd.f4 [] false w args ∧ laidMetH Tryd.prog laid9 w) ∧ sizedMet enc Tryd.prog Tryd.f4 (OpenSpec.ofChange Rows.codeNamesSpec) false w args)
      (Rows.codeNamesSpec.post enc Tryd.prog Tryd.f4 false true false false) := by
  refine returnsInHanded_of_change_and (C := Tryd.checked) (X := fun w _ => laidMetH Tryd.prog laid9 w) (fun _ _ _ hh h => h.of_heap hh) own started (by kernel_rfl) Tryd.func4
    (ChangeSpec.witness_shaped (enc := enc) (C := Tryd.checked) (os := os) (X := fun w _ => laidMetH Tryd.prog laid9 w) false (World.doorLaid Tryd.prog 400 os) #[.agg #[.int .i64 0, .int .i64 0, .int .i64 0, .int .i64 0, .int .i64 0]] 8 rfl (World.shaped_of_RefB (by kernel_rfl) (by kernel_rfl)) (by kernel_rfl) (by kernel_rfl) (by kernel_rfl) (door_met os _)) ?_
  intro W base args ds gs before hval0 hW _ _ hL _
  have hval : ∀ (j : Nat) t v, Tryd.f4.params[j]? = some t → args[j]? = some v → Value.okWide Tryd.prog W .any base t v := hval0
  have hW' := hW
  obtain ⟨p, q, hA0, hV, rfl, hfz, hnd⟩ := hW
  have hA : DataW.TrodAll enc Tryd.prog W 0 (fun _ => true) true Tryd.f4.params.toList args.toList ds p := hA0
  rw [Tryd.params4] at hA hval
  obtain ⟨v0, vs0, d0, ds0, p0, q0, hargs, rfl, rfl, h0, r0⟩ := trodAll_cons hA
  obtain ⟨rfl, rfl, rfl⟩ := trodAll_nil r0
  obtain rfl : args = #[v0] := by cases args; simp_all
  obtain ⟨rfl, rfl⟩ := trodVars_none hV
  have k0 := h0
  have lt0 : ∀ x ∈ p0, x.block < W.heap.size := by obtain ⟨m, hm⟩ := k0; exact DataW.trod_lt m _ _ _ hm
  obtain ⟨s0, rfl, w0⟩ := open_instr (hval 0 38 v0 rfl rfl) h0
  clear hA0 hval0
  refine (walk_CodeNames s0 W (tab_of_laid hL) w0).mono fun e W' ⟨he, hg⟩ => ?_
  subst he
  exact ⟨_, rfl, _, _, _, [], _, [], hW', trodAll_mk1 (shut_bool Tryd.underlying4 _), (trodAll_cons_mk (Below.trod laidOut (by kernel_rfl) (of_decide_eq_true (by kernel_rfl)) k0 hg lt0) trodAll_mk0), rfl, hg.frame _, fun h => by cases h⟩

theorem row_CodeNames : Rows.CodeNamesSaid :=
  OpenClaim.holds_of_wide 4 Tryd.f4 rfl rfl rfl rfl rfl rfl rfl ⟨rfl, rfl, rfl, rfl, rfl⟩ rfl rfl rfl rfl rfl (by kernel_rfl) Tryd.func4 (by kernel_rfl)
    (of_decide_eq_true (by kernel_rfl)) (by unfold Func.isWrapper; first | (rw [if_pos (by decide +kernel)]; kernel_rfl) | (rw [if_neg (by decide +kernel)]; exact ⟨rfl, rfl⟩))
    (fun os started H enc _ => lifted_CodeNames os started H enc)

/-- THE STATEMENT. -/
theorem card_CodeNames : Rows.CodeNamesCardSaid :=
  Claim7.holds_tied_plain_at .later [] [.data, .data, .data, .data] true (true, "29c90ad79e1b56b8cd93b8f687e923f7b81515e28f39da1e7c5e0c639d62ffd3") false
    row_CodeNames (fun _ h => by cases h) (by kernel_rfl) (fun _ h => by cases h) codeNames_row_tie rfl ⟨rfl, rfl⟩ (by kernel_rfl) rfl
    (fun f fn hf hfn => by
      obtain rfl : f = 4 := Option.some.inj ((show Tryd.prog.funcNamed "gantline/gantlinelaw9.CodeNames" = some 4 by kernel_rfl).symm.trans hf) |>.symm
      obtain rfl : fn = Tryd.f4 := (Option.some.inj (Tryd.func4.symm.trans hfn)).symm
      exact ⟨by kernel_rfl, fun j t ht => by
        rw [Tryd.params4] at ht
        have hm : t ∈ [38] := by simpa using Array.mem_of_getElem? ht
        have hall : ([38].all fun u => !Tryd.prog.wantsStandIn u) = true := by kernel_rfl
        exact (show Tryd.prog.wantsStandIn t = false by simpa using List.all_eq_true.1 hall t hm)⟩)
    (by kernel_rfl)
#print axioms card_CodeNames
end Go.Proofs.YtfbochlohalimaaDoor
