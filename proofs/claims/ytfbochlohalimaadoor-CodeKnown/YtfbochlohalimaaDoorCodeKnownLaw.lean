/- CodeKnown of gantlinelaw9: the examples answer as told. -/
import Derived.Test.YtfbochlohalimaaDoorCodeCutsLaw
namespace Go.Proofs.YtfbochlohalimaaDoor
set_option maxRecDepth 100000
open Go.RowKit Go.Maps Go.ChangeShapes Go.WideShapes Go.ChangeAt Go.Deep

theorem show_none : showP ⟨99, 0, 0, 0, 0⟩ = [] := rfl
theorem show_poll : showP ⟨43, 5, 0, 0, 0⟩ = [112, 111, 108, 108] := rfl
theorem dec_nil : decM [] = none := rfl
theorem dec_fst : decM fst4 = none := rfl

set_option maxHeartbeats 2000000 in
theorem known_core (W : World) (ht : Tab9 W) (sm sn : Md) (n1 n2 n3 n4 n5 : Nat) (n6 : Int) (hn1 : sm.sh.length = n1) (hn2 : sm.gl.length = n2) (hn3 : sm.co.length = n3) (hn4 : sm.ca.length = n4) (hn5 : sm.fn.length = n5) (hn6 : sm.main = n6) (hsn : sn = ⟨sm.sh, sm.gl, sm.co, sm.ca, sm.fn, 1⟩) (hne : ¬ sn = sm)
    (SM : Hid (∀ w, Calls Tryd.prog 11 #[] w fun e w' => ∃ v, e = .returned v ∧ ModAt w' v sm ∧ G w w')) :
    Calls Tryd.prog 3 #[] W fun e w' => e = .returned (.bool true) ∧ G W w' := by
  have AW := hide (fun x (g : G W x) => awake_any x (ht.g g))
  have TB := hide (fun x (g : G W x) => ht.g g)
  have D0 := hide (fun x => (decode_any x none 0 0 [] ⟨rfl, byt_nil, Or.inl rfl⟩ (Nat.le_refl _) (by decide)).mono (fun e w' h => DecTo.none h dec_nil))
  have D1 := hide (fun x b (hr : Row x (some ⟨b, 0, none⟩) 4 fst4) => (decode_any x (some ⟨b, 0, none⟩) 4 4 fst4 hr (Nat.le_refl _) (by decide)).mono (fun e w' h => DecTo.none h dec_fst))
  have HN := hide (show sm.sh.length = n1 ∧ sm.gl.length = n2 ∧ sm.co.length = n3 ∧ sm.ca.length = n4 ∧ sm.fn.length = n5 ∧ sm.main = n6 from ⟨hn1, hn2, hn3, hn4, hn5, hn6⟩)
  have HS := hide hsn
  have NE := hide hne
  clear ht hn1 hn2 hn3 hn4 hn5 hn6 hsn hne
  go_enter Tryd.func3, Tryd.ntmps3
  go_wp2_with fail
  refine (unhide AW _ (G.refl W)).mono ?_
  rintro e w1 ⟨rfl, g1⟩
  replace g1 := hide g1
  clear AW
  go_wp2_with fail
  refine (unhide D0 w1).mono ?_
  rintro e w2 ⟨x0, x1, x2, x3, x4, x5, x6, x7, x8, x9, rfl, g2⟩
  have G2 := hide ((unhide g1).trans g2)
  clear D0 g1 g2
  obtain ⟨wa, hwa⟩ : ∃ wa, wa = w2.alloc (.cells #[.slice x0 0 x1, .slice x2 0 x3, .slice x4 0 x5, .slice x6 0 x7, .slice x8 0 x9, .int .i64 0] 29) := ⟨_, rfl⟩
  have hcv := Lib.run_convert_bytes_const (P := Tryd.prog) wa 33 5 #[.int .u8 71, .int .u8 79, .int .u8 76, .int .u8 49] 4 4 Tryd.underlying33 Tryd.underlying5
  have hrow : Row (wa.alloc (.cells #[.int .u8 71, .int .u8 79, .int .u8 76, .int .u8 49] 5 (4, 5))) (some ⟨wa.heap.size, 0, none⟩) 4 fst4 := by
    refine ⟨rfl, fst_byt, Or.inr ⟨wa.heap.size, 0, rfl, fun i hi => ?_⟩⟩
    rw [Nat.zero_add, cell_of_row _ _ i _ _ _ (heap_alloc_new wa _)]
    match i, hi with
    | 0, _ => rfl
    | 1, _ => rfl
    | 2, _ => rfl
    | 3, _ => rfl
  have DD := unhide D1 _ _ hrow
  have Ga := hide ((unhide G2).trans (show G w2 wa by rw [hwa]; exact G.alloc _ _))
  have hsa : wa.heap.size = w2.heap.size + 1 := by rw [hwa]; exact World.size_alloc _ _
  rw [hsa] at hcv DD
  rw [hwa] at hcv DD
  replace DD := hide DD
  clear hrow D1 G2
  go_wp2_with fail
  refine (unhide DD).mono ?_
  rintro e w3 ⟨y0, y1, y2, y3, y4, y5, y6, y7, y8, y9, rfl, g3⟩
  rw [← hwa] at g3
  have G3 := hide ((unhide Ga).trans (((G.refl wa).more _).trans g3))
  clear DD hcv Ga g3 hsa hwa
  go_wp2_with fail
  refine (unhide SM _).mono ?_
  rintro e w4 ⟨v, rfl, hM4, g4⟩
  have G4 := hide ((unhide G3).trans (((G.refl w3).more _).trans g4))
  obtain ⟨so, sc, go, gc, co, cc, xo, xc, fo, fc, rfl, r1, r2, r3, r4, r5⟩ := hM4
  have HR := hide (show RowAt elSp w4 so sm.sh.length sc sm.sh ∧ RowAt elB w4 go sm.gl.length gc sm.gl ∧ RowAt elI w4 co sm.co.length cc sm.co ∧ RowAt elCa w4 xo sm.ca.length xc sm.ca ∧ RowAt elFn w4 fo sm.fn.length fc sm.fn from ⟨r1, r2, r3, r4, r5⟩)
  obtain ⟨e1, e2, e3, e4, e5, e6⟩ := unhide HN
  rw [e1, e2, e3, e4, e5, e6]
  clear g4 G3 r1 r2 r3 r4 r5
  obtain ⟨w5, hw5⟩ : ∃ w5, w5 = w4.alloc (.cells #[.slice so n1 sc, .slice go n2 gc, .slice co n3 cc, .slice xo n4 xc, .slice fo n5 fc, .int .i64 1] 29) := ⟨_, rfl⟩
  have g5 : G w4 w5 := by rw [hw5]; exact G.alloc _ _
  have hM5 : ModAt w5 (.agg #[.slice so n1 sc, .slice go n2 gc, .slice co n3 cc, .slice xo n4 xc, .slice fo n5 fc, .int .i64 1]) sn := by
    obtain ⟨r1, r2, r3, r4, r5⟩ := unhide HR
    rw [e1] at r1
    rw [e2] at r2
    rw [e3] at r3
    rw [e4] at r4
    rw [e5] at r5
    rw [unhide HS]
    exact ModAt.g ⟨so, sc, go, gc, co, cc, xo, xc, fo, fc, by simp [e1, e2, e3, e4, e5], by rw [e1]; exact r1, by rw [e2]; exact r2, by rw [e3]; exact r3, by rw [e4]; exact r4, by rw [e5]; exact r5⟩ g5
  have KP : Hid (∀ x, G w5 x → G w5 x ∧ x.cell? ⟨w4.heap.size, 0, none⟩ = some (.slice so n1 sc) ∧ x.cell? ⟨w4.heap.size, 1, none⟩ = some (.slice go n2 gc) ∧ x.cell? ⟨w4.heap.size, 2, none⟩ = some (.slice co n3 cc) ∧ x.cell? ⟨w4.heap.size, 3, none⟩ = some (.slice xo n4 xc) ∧ x.cell? ⟨w4.heap.size, 4, none⟩ = some (.slice fo n5 fc) ∧ x.cell? ⟨w4.heap.size, 5, none⟩ = some (.int .i64 1)) := hide fun x gx => ⟨gx, gx.cell (by rw [hw5]; simp [go_sem]), gx.cell (by rw [hw5]; simp [go_sem]), gx.cell (by rw [hw5]; simp [go_sem]), gx.cell (by rw [hw5]; simp [go_sem]), gx.cell (by rw [hw5]; simp [go_sem]), gx.cell (by rw [hw5]; simp [go_sem])⟩
  have KC : Hid (∀ x x2, G x x2 → (G w5 x ∧ x.cell? ⟨w4.heap.size, 0, none⟩ = some (.slice so n1 sc) ∧ x.cell? ⟨w4.heap.size, 1, none⟩ = some (.slice go n2 gc) ∧ x.cell? ⟨w4.heap.size, 2, none⟩ = some (.slice co n3 cc) ∧ x.cell? ⟨w4.heap.size, 3, none⟩ = some (.slice xo n4 xc) ∧ x.cell? ⟨w4.heap.size, 4, none⟩ = some (.slice fo n5 fc) ∧ x.cell? ⟨w4.heap.size, 5, none⟩ = some (.int .i64 1)) → (G w5 x2 ∧ x2.cell? ⟨w4.heap.size, 0, none⟩ = some (.slice so n1 sc) ∧ x2.cell? ⟨w4.heap.size, 1, none⟩ = some (.slice go n2 gc) ∧ x2.cell? ⟨w4.heap.size, 2, none⟩ = some (.slice co n3 cc) ∧ x2.cell? ⟨w4.heap.size, 3, none⟩ = some (.slice xo n4 xc) ∧ x2.cell? ⟨w4.heap.size, 4, none⟩ = some (.slice fo n5 fc) ∧ x2.cell? ⟨w4.heap.size, 5, none⟩ = some (.int .i64 1))) := hide fun x x2 hg hs => unhide KP x2 (hs.1.trans hg)
  have FIN := hide (fun x (gx : G w5 x) => ((unhide G4).trans g5).trans gx)
  have CS : Hid (∀ x, (G w5 x ∧ x.cell? ⟨w4.heap.size, 0, none⟩ = some (.slice so n1 sc) ∧ x.cell? ⟨w4.heap.size, 1, none⟩ = some (.slice go n2 gc) ∧ x.cell? ⟨w4.heap.size, 2, none⟩ = some (.slice co n3 cc) ∧ x.cell? ⟨w4.heap.size, 3, none⟩ = some (.slice xo n4 xc) ∧ x.cell? ⟨w4.heap.size, 4, none⟩ = some (.slice fo n5 fc) ∧ x.cell? ⟨w4.heap.size, 5, none⟩ = some (.int .i64 1)) → Calls Tryd.prog 11 #[] x fun e w' => ∃ v, e = .returned v ∧ ModAt w' v sm ∧ G x w') := hide fun x _ => unhide SM x
  have CE : Hid (∀ x v2, (G w5 x ∧ x.cell? ⟨w4.heap.size, 0, none⟩ = some (.slice so n1 sc) ∧ x.cell? ⟨w4.heap.size, 1, none⟩ = some (.slice go n2 gc) ∧ x.cell? ⟨w4.heap.size, 2, none⟩ = some (.slice co n3 cc) ∧ x.cell? ⟨w4.heap.size, 3, none⟩ = some (.slice xo n4 xc) ∧ x.cell? ⟨w4.heap.size, 4, none⟩ = some (.slice fo n5 fc) ∧ x.cell? ⟨w4.heap.size, 5, none⟩ = some (.int .i64 1)) → ModAt x v2 sm → Calls Tryd.prog 14 #[.agg #[.slice so n1 sc, .slice go n2 gc, .slice co n3 cc, .slice xo n4 xc, .slice fo n5 fc, .int .i64 1], v2] x fun e w' => e = .returned (.bool false) ∧ G x w') := hide fun x v2 hs h2 => by
    refine (same_any x _ v2 sn sm (hM5.g hs.1) h2).mono ?_
    rintro e w' ⟨q, rfl, hq, hg⟩
    refine ⟨?_, hg⟩
    have : q = false := by
      cases q
      · rfl
      · exact absurd (hq.1 rfl) (unhide NE)
    rw [this]
  have CZ : Hid (∀ x b, (G w5 x ∧ x.cell? ⟨w4.heap.size, 0, none⟩ = some (.slice so n1 sc) ∧ x.cell? ⟨w4.heap.size, 1, none⟩ = some (.slice go n2 gc) ∧ x.cell? ⟨w4.heap.size, 2, none⟩ = some (.slice co n3 cc) ∧ x.cell? ⟨w4.heap.size, 3, none⟩ = some (.slice xo n4 xc) ∧ x.cell? ⟨w4.heap.size, 4, none⟩ = some (.slice fo n5 fc) ∧ x.cell? ⟨w4.heap.size, 5, none⟩ = some (.int .i64 1)) → Calls Tryd.prog 14 #[.agg #[.slice none 0 0, .slice none 0 0, .slice none 0 0, .slice none 0 0, .slice none 0 0, .int .i64 0], .agg #[.slice none 0 0, .slice (some ⟨b, 0, none⟩) 0 0, .slice none 0 0, .slice none 0 0, .slice none 0 0, .int .i64 0]] x fun e w' => e = .returned (.bool true) ∧ G x w') := hide fun x b _ => by
    have h2 : ModAt x (.agg #[.slice none 0 0, .slice (some ⟨b, 0, none⟩) 0 0, .slice none 0 0, .slice none 0 0, .slice none 0 0, .int .i64 0]) noMd := ⟨none, 0, some ⟨b, 0, none⟩, 0, none, 0, none, 0, none, 0, rfl, RowAt.nil x, ⟨rfl, Nat.zero_le _, (fun e => by cases e), Or.inl rfl⟩, RowAt.nil x, RowAt.nil x, RowAt.nil x⟩
    refine (same_any x _ _ noMd noMd (noMd_at x) h2).mono ?_
    rintro e w' ⟨q, rfl, hq, hg⟩
    exact ⟨by rw [hq.2 rfl], hg⟩
  have CN1 : Hid (∀ x, (G w5 x ∧ x.cell? ⟨w4.heap.size, 0, none⟩ = some (.slice so n1 sc) ∧ x.cell? ⟨w4.heap.size, 1, none⟩ = some (.slice go n2 gc) ∧ x.cell? ⟨w4.heap.size, 2, none⟩ = some (.slice co n3 cc) ∧ x.cell? ⟨w4.heap.size, 3, none⟩ = some (.slice xo n4 xc) ∧ x.cell? ⟨w4.heap.size, 4, none⟩ = some (.slice fo n5 fc) ∧ x.cell? ⟨w4.heap.size, 5, none⟩ = some (.int .i64 1)) → Calls Tryd.prog 12 #[.int .i64 45] x fun e w' => e = .returned (.string ⟨#[]⟩) ∧ G x w') := hide fun x hs => name_any x 45 (unhide TB x (unhide FIN x hs.1)).1
  have CN2 : Hid (∀ x, (G w5 x ∧ x.cell? ⟨w4.heap.size, 0, none⟩ = some (.slice so n1 sc) ∧ x.cell? ⟨w4.heap.size, 1, none⟩ = some (.slice go n2 gc) ∧ x.cell? ⟨w4.heap.size, 2, none⟩ = some (.slice co n3 cc) ∧ x.cell? ⟨w4.heap.size, 3, none⟩ = some (.slice xo n4 xc) ∧ x.cell? ⟨w4.heap.size, 4, none⟩ = some (.slice fo n5 fc) ∧ x.cell? ⟨w4.heap.size, 5, none⟩ = some (.int .i64 1)) → Calls Tryd.prog 12 #[.int .i64 (-1)] x fun e w' => e = .returned (.string ⟨#[]⟩) ∧ G x w') := hide fun x hs => name_any x (-1) (unhide TB x (unhide FIN x hs.1)).1
  have CW1 : Hid (∀ x, (G w5 x ∧ x.cell? ⟨w4.heap.size, 0, none⟩ = some (.slice so n1 sc) ∧ x.cell? ⟨w4.heap.size, 1, none⟩ = some (.slice go n2 gc) ∧ x.cell? ⟨w4.heap.size, 2, none⟩ = some (.slice co n3 cc) ∧ x.cell? ⟨w4.heap.size, 3, none⟩ = some (.slice xo n4 xc) ∧ x.cell? ⟨w4.heap.size, 4, none⟩ = some (.slice fo n5 fc) ∧ x.cell? ⟨w4.heap.size, 5, none⟩ = some (.int .i64 1)) → Calls Tryd.prog 13 #[.agg #[.int .i64 99, .int .i64 0, .int .i64 0, .int .i64 0, .int .i64 0]] x fun e w' => e = .returned (.string ⟨#[]⟩) ∧ G x w') := hide fun x hs => by
    have := show_any x ⟨99, 0, 0, 0, 0⟩ ⟨by unfold oI; decide, by unfold oI; decide, by unfold oI; decide, by unfold oI; decide, by unfold oI; decide⟩ (unhide TB x (unhide FIN x hs.1))
    rw [show_none] at this
    exact this
  have CW2 : Hid (∀ x, (G w5 x ∧ x.cell? ⟨w4.heap.size, 0, none⟩ = some (.slice so n1 sc) ∧ x.cell? ⟨w4.heap.size, 1, none⟩ = some (.slice go n2 gc) ∧ x.cell? ⟨w4.heap.size, 2, none⟩ = some (.slice co n3 cc) ∧ x.cell? ⟨w4.heap.size, 3, none⟩ = some (.slice xo n4 xc) ∧ x.cell? ⟨w4.heap.size, 4, none⟩ = some (.slice fo n5 fc) ∧ x.cell? ⟨w4.heap.size, 5, none⟩ = some (.int .i64 1)) → Calls Tryd.prog 13 #[.agg #[.int .i64 43, .int .i64 5, .int .i64 0, .int .i64 0, .int .i64 0]] x fun e w' => e = .returned (.string ⟨#[112, 111, 108, 108]⟩) ∧ G x w') := hide fun x hs => by
    have := show_any x ⟨43, 5, 0, 0, 0⟩ ⟨by unfold oI; decide, by unfold oI; decide, by unfold oI; decide, by unfold oI; decide, by unfold oI; decide⟩ (unhide TB x (unhide FIN x hs.1))
    rw [show_poll] at this
    exact this
  have K0 := unhide KP w5 (G.refl _)
  have KD := hide (unhide KP _ ((G.refl w5).drew))
  clear e1 e2 e3 e4 e5 e6 HR hM5 g5 TB NE HS HN
  go_wp2_with fail
  rw [← hw5]
  clear hw5
  go_region_held3 (fun x => G w5 x ∧ x.cell? ⟨w4.heap.size, 0, none⟩ = some (.slice so n1 sc) ∧ x.cell? ⟨w4.heap.size, 1, none⟩ = some (.slice go n2 gc) ∧ x.cell? ⟨w4.heap.size, 2, none⟩ = some (.slice co n3 cc) ∧ x.cell? ⟨w4.heap.size, 3, none⟩ = some (.slice xo n4 xc) ∧ x.cell? ⟨w4.heap.size, 4, none⟩ = some (.slice fo n5 fc) ∧ x.cell? ⟨w4.heap.size, 5, none⟩ = some (.int .i64 1))
    (first | assumption | exact unhide KD | exact unhide KC _ _ (by assumption) (by assumption) | exact unhide KC _ _ (G.alloc _ _) (by assumption))
    ((first
      | (go_at_call_of 12 (Value.int IntKind.i64 45); refine (unhide CN1 _ ?_).mono ?_; assumption; rintro e z1 ⟨rfl, hz1⟩)
      | (go_at_call 12; refine (unhide CN2 _ ?_).mono ?_; assumption; rintro e z2 ⟨rfl, hz2⟩)
      | (go_at_call_of 13 (Value.agg #[Value.int IntKind.i64 99, Value.int IntKind.i64 0, Value.int IntKind.i64 0, Value.int IntKind.i64 0, Value.int IntKind.i64 0]); refine (unhide CW1 _ ?_).mono ?_; assumption; rintro e z3 ⟨rfl, hz3⟩)
      | (go_at_call 13; refine (unhide CW2 _ ?_).mono ?_; assumption; rintro e z4 ⟨rfl, hz4⟩)
      | (go_at_call 11; refine (unhide CS _ ?_).mono ?_; assumption; rintro e z5 ⟨v2, rfl, hM2, hz5⟩)
      | (go_at_call_of 14 (Value.agg #[.slice none 0 0, .slice none 0 0, .slice none 0 0, .slice none 0 0, .slice none 0 0, .int .i64 0]); refine (unhide CZ _ _ ?_).mono ?_; assumption; rintro e z7 ⟨rfl, hz7⟩)
      | (go_at_call 14; refine (unhide CE _ _ ?_ (by first | exact hM2 | exact hM2.g (G.drew (G.refl _)))).mono ?_; assumption; rintro e z6 ⟨rfl, hz6⟩)))
  all_goals
    go_wp2_with fail
    go_ret
    rename_i hH
    exact ⟨rfl, unhide FIN _ hH.1⟩
theorem walk_CodeKnown (W : World) (ht : Tab9 W) : Calls Tryd.prog 3 #[] W fun e w' => e = .returned (.bool true) ∧ G W w' :=
  known_core W ht smallMd _ _ _ _ _ _ _ rfl rfl rfl rfl rfl rfl rfl (fun h => absurd (congrArg Md.main h) (by decide)) (hide small_any)

set_option maxRecDepth 100000 in
theorem lifted_CodeKnown (os : Os) (started : os.Started) (H : Type) (enc : TypeId × Value → H) :
    ReturnsInHanded {} Tryd.checked os 3 .any (fun w args => (Rows.codeKnownSpec.pre enc Tryd.prog Tryd.f3 [] false w args ∧ laidMetH Tryd.prog laid9 w) ∧ sizedMet enc Tryd.prog Tryd.f3 (OpenSpec.ofChange Rows.codeKnownSpec) false w args)
      (Rows.codeKnownSpec.post enc Tryd.prog Tryd.f3 false true false false) := by
  refine returnsInHanded_of_change_and (C := Tryd.checked) (X := fun w _ => laidMetH Tryd.prog laid9 w) (fun _ _ _ hh h => h.of_heap hh) own started (by kernel_rfl) Tryd.func3
    (ChangeSpec.witness_shaped (enc := enc) (C := Tryd.checked) (os := os) (X := fun w _ => laidMetH Tryd.prog laid9 w) false (World.doorLaid Tryd.prog 400 os) #[] 8 rfl (World.shaped_of_RefB (by kernel_rfl) (by kernel_rfl)) (by kernel_rfl) (by kernel_rfl) (by kernel_rfl) (door_met os _)) ?_
  intro W base args ds gs before hval0 hW _ _ hL _
  have hval : ∀ (j : Nat) t v, Tryd.f3.params[j]? = some t → args[j]? = some v → Value.okWide Tryd.prog W .any base t v := hval0
  have hW' := hW
  obtain ⟨p, q, hA0, hV, rfl, hfz, hnd⟩ := hW
  have hA : DataW.TrodAll enc Tryd.prog W 0 (fun _ => true) true Tryd.f3.params.toList args.toList ds p := hA0
  rw [Tryd.params3] at hA hval
  obtain ⟨rfl, rfl, rfl⟩ := trodAll_none hA
  obtain ⟨rfl, rfl⟩ := trodVars_none hV
  clear hA0 hval0
  refine (walk_CodeKnown  W (tab_of_laid hL) ).mono fun e W' ⟨he, hg⟩ => ?_
  subst he
  exact ⟨_, rfl, _, _, _, [], [], [], hW', trodAll_mk1 (shut_bool Tryd.underlying4 _), trodAll_mk0, rfl, hg.frame _, fun h => by cases h⟩

theorem row_CodeKnown : Rows.CodeKnownSaid :=
  OpenClaim.holds_of_wide 3 Tryd.f3 rfl rfl rfl rfl rfl rfl rfl ⟨rfl, rfl, rfl, rfl, rfl⟩ rfl rfl rfl rfl rfl (by kernel_rfl) Tryd.func3 (by kernel_rfl)
    (of_decide_eq_true (by kernel_rfl)) (by unfold Func.isWrapper; first | (rw [if_pos (by decide +kernel)]; kernel_rfl) | (rw [if_neg (by decide +kernel)]; exact ⟨rfl, rfl⟩))
    (fun os started H enc _ => lifted_CodeKnown os started H enc)

/-- THE STATEMENT. -/
theorem card_CodeKnown : Rows.CodeKnownCardSaid :=
  Claim7.holds_tied_plain_at .later [] [.data, .data, .data, .data] true (true, "29c90ad79e1b56b8cd93b8f687e923f7b81515e28f39da1e7c5e0c639d62ffd3") false
    row_CodeKnown (fun _ h => by cases h) (by kernel_rfl) (fun _ h => by cases h) codeKnown_row_tie rfl ⟨rfl, rfl⟩ (by kernel_rfl) rfl
    (fun f fn hf hfn => by
      obtain rfl : f = 3 := Option.some.inj ((show Tryd.prog.funcNamed "gantline/gantlinelaw9.CodeKnown" = some 3 by kernel_rfl).symm.trans hf) |>.symm
      obtain rfl : fn = Tryd.f3 := (Option.some.inj (Tryd.func3.symm.trans hfn)).symm
      exact ⟨by kernel_rfl, fun j t ht => by
        rw [Tryd.params3] at ht
        simp at ht⟩)
    (by kernel_rfl)
#print axioms card_CodeKnown
end Go.Proofs.YtfbochlohalimaaDoor
