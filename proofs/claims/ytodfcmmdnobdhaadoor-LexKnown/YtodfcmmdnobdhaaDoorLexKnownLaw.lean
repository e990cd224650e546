/- LexKnown of gantlinelaw19: the examples of chapter 19 and its bounds answer as told (closed). -/
import Derived.Test.YtodfcmmdnobdhaaDoorLexBase
import Derived.Laws.BytesArg
namespace Go.Proofs.YtodfcmmdnobdhaaDoor
set_option maxRecDepth 100000
open Go.RowKit Go.Maps Go.ChangeShapes Go.WideShapes Go.ChangeAt Go.Deep

theorem made_get (z : Value) (n k : Nat) (h : k < n) : (madeCells #[z] n)[k]? = some z := by
  have : k % 1 = 0 := by omega
  simp [madeCells, h, this]
theorem mk_bytes (w : World) (n : Nat) (m : Int) (hm : m = (n : Int)) (hn : n ≤ 1000000) : ∃ W2 S, (Instr.makeSlice 27 (.int .i64 m) (.int .i64 m)).run Tryd.prog w = .ok (.slice (some ⟨w.heap.size, 0, none⟩) n n) W2 ∧ (convert 27 9 (.slice (some ⟨w.heap.size, 0, none⟩) n n)).run Tryd.prog W2 = .ok (.string S) W2 ∧ G w W2 ∧ S.size = n := by
  obtain ⟨i0, hi, hz0, hz1, hz2⟩ := info_parts info_u8
  subst hm
  have h := run_make (P := Tryd.prog) w 27 5 i0 (.int .u8 0) Tryd.underlying27 hi hz0 .i64 .i64 (n : Int) (n : Int) (by omega) (by omega) (by rw [hz2]; omega) (by omega)
  rw [hz1] at h
  have h3 := run_convert_bytes_arg (P := Tryd.prog) (w.alloc (.cells (madeCells #[Value.int .u8 0] n) 5)) 27 5 Tryd.underlying27 Tryd.underlying5 w.heap.size 0 n n (List.replicate n 0) (by simp) (fun i hi => by
    rw [Nat.zero_add]
    refine (cell_of_row _ _ _ _ _ _ (heap_alloc_new w _)).trans ?_
    rw [made_get _ _ _ hi]
    simp [List.getD, hi]) 9 Tryd.underlying9
  refine ⟨_, _, ?_, h3, (Below.refl _ w).alloc (Nat.le_refl _) _, by rw [strOfNums_size]; simp⟩
  simpa [Value.cells] using h
/-- Great texts. -/
theorem lexcut_big (s : ByteArray) (w : World) (hs : 16384 < s.size) : Calls Tryd.prog 8 #[.string s] w fun e w' => e = .returned (.tuple #[.slice none 0 0, .int .i64 0, .int .i64 2]) ∧ w' = w := by
  have h : (16384 : Int) < (s.size : Int) := by omega
  go_enter Tryd.func8, Tryd.ntmps8
  go_wp2_with fail
  refine bodyPost_ret (by simp [results, Tryd.results8, go_sem]; try rfl) rfl ?_
  exact ⟨rfl, rfl⟩

set_option maxHeartbeats 2000000 in
theorem walk_LexKnown (W : World) (hL : laidMetH Tryd.prog laid9 W) : Calls Tryd.prog 3 #[] W fun e w' => e = .returned (.bool true) ∧ G W w' := by
  have hE := ev_of_laid hL
  have AW := hide (awake_any W hE)
  have C1 : Hid (∀ w1, G W w1 → Calls Tryd.prog 8 #[.string ⟨#[32, 52, 54, 49, 49, 54, 56, 54, 48, 49, 56, 52, 50, 55, 51, 56, 55, 57, 48, 52]⟩] w1 fun e w2 => e = .returned (.tuple #[.slice none 0 0, .int .i64 1, .int .i64 6]) ∧ G w1 w2) := hide fun w1 g => by
    have h := lexcut_any ⟨#[32, 52, 54, 49, 49, 54, 56, 54, 48, 49, 56, 52, 50, 55, 51, 56, 55, 57, 48, 52]⟩ w1 (by decide) (hE.g g)
    rw [show (⟨#[32, 52, 54, 49, 49, 54, 56, 54, 48, 49, 56, 52, 50, 55, 51, 56, 55, 57, 48, 52]⟩ : ByteArray).data.toList = [32, 52, 54, 49, 49, 54, 56, 54, 48, 49, 56, 52, 50, 55, 51, 56, 55, 57, 48, 52] from rfl, cut_great] at h
    exact h.mono fun e w2 h => h.bad
  have C2 : Hid (∀ w1, G W w1 → Calls Tryd.prog 8 #[.string ⟨#[52, 54, 49, 49, 54, 56, 54, 48, 49, 56, 52, 50, 55, 51, 56, 55, 57, 48, 51, 32, 47, 47, 32, 120]⟩] w1 fun e w2 => ∃ g cap, e = .returned (.tuple #[.slice (some ⟨g, 0, none⟩) 2 cap, .int .i64 0, .int .i64 0]) ∧ G w1 w2) := hide fun w1 g => by
    have h := lexcut_any ⟨#[52, 54, 49, 49, 54, 56, 54, 48, 49, 56, 52, 50, 55, 51, 56, 55, 57, 48, 51, 32, 47, 47, 32, 120]⟩ w1 (by decide) (hE.g g)
    rw [show (⟨#[52, 54, 49, 49, 54, 56, 54, 48, 49, 56, 52, 50, 55, 51, 56, 55, 57, 48, 51, 32, 47, 47, 32, 120]⟩ : ByteArray).data.toList = [52, 54, 49, 49, 54, 56, 54, 48, 49, 56, 52, 50, 55, 51, 56, 55, 57, 48, 51, 32, 47, 47, 32, 120] from rfl, cut_most] at h
    refine h.mono fun e w2 h => ?_
    obtain ⟨g, cap, he, hg, _⟩ := h.ok (by simp)
    exact ⟨g, cap, he, hg⟩
  have K := hide (fun w => by
    have h := kept_any ⟨#[]⟩ w
    rw [show (⟨#[]⟩ : ByteArray).data.toList = [] from rfl, kept_nil] at h
    exact h)
  have MB : Hid (∀ w, ∃ W2 S, (Instr.makeSlice 27 (.int .i64 16385) (.int .i64 16385)).run Tryd.prog w = .ok (.slice (some ⟨w.heap.size, 0, none⟩) 16385 16385) W2 ∧ (convert 27 9 (.slice (some ⟨w.heap.size, 0, none⟩) 16385 16385)).run Tryd.prog W2 = .ok (.string S) W2 ∧ G w W2 ∧ S.size = 16385) := hide fun w => mk_bytes w 16385 16385 rfl (by omega)
  clear hE hL
  go_enter Tryd.func3, Tryd.ntmps3
  go_wp2_with fail
  refine (unhide AW).mono ?_
  rintro e w1 ⟨rfl, g1⟩
  have D1 := hide (unhide C1 w1 g1)
  clear AW C1
  go_wp2_with fail
  refine (unhide D1).mono ?_
  rintro e w2 ⟨rfl, g2⟩
  replace g2 := G.trans g1 g2
  have D2 := hide (unhide C2 w2 g2)
  clear D1 C2 g1
  go_wp2_with fail
  refine (unhide D2).mono ?_
  rintro e w3 ⟨g, cap, rfl, g3⟩
  replace g3 := G.trans g2 g3
  obtain ⟨W4, S, r1, r2, g4, hS⟩ := unhide MB w3
  replace g4 := hide (G.trans g3 g4)
  have D3 := hide (lexcut_big S W4 (by omega))
  clear D2 MB g2 g3 hS
  go_wp2_with fail
  refine (unhide D3).mono ?_
  rintro e w5 ⟨rfl, rfl⟩
  go_wp2_with fail
  refine (unhide K w5).mono ?_
  rintro e w6 ⟨rfl, rfl⟩
  go_wp2_with fail
  go_ret
  exact ⟨rfl, unhide g4⟩

set_option maxRecDepth 100000 in
theorem lifted_LexKnown (os : Os) (started : os.Started) (H : Type) (enc : TypeId × Value → H) :
    ReturnsInHanded {} Tryd.checked os 3 .any (fun w args => (Rows.lexKnownSpec.pre enc Tryd.prog Tryd.f3 [] false w args ∧ laidMetH Tryd.prog laid9 w) ∧ sizedMet enc Tryd.prog Tryd.f3 (OpenSpec.ofChange Rows.lexKnownSpec) false w args)
      (Rows.lexKnownSpec.post enc Tryd.prog Tryd.f3 false true false false) := by
  refine returnsInHanded_of_change_and (C := Tryd.checked) (X := fun w _ => laidMetH Tryd.prog laid9 w) (fun _ _ _ hh h => h.of_heap hh) own started (by kernel_rfl) Tryd.func3
    (ChangeSpec.witness_shaped (enc := enc) (C := Tryd.checked) (os := os) (X := fun w _ => laidMetH Tryd.prog laid9 w) false (World.doorLaid Tryd.prog 400 os) #[] 8 rfl (World.shaped_of_RefB (by kernel_rfl) (by kernel_rfl)) (by kernel_rfl) (by kernel_rfl) (by kernel_rfl) (door_met os _)) ?_
  intro W base args ds gs before hval0 hW _ _ hL _
  have hval : ∀ (j : Nat) t v, Tryd.f3.params[j]? = some t → args[j]? = some v → Value.okWide Tryd.prog W .any base t v := hval0
  have hW' := hW
  obtain ⟨p, q, hA0, hV, rfl, hfz, hnd⟩ := hW
  have hA : DataW.TrodAll enc Tryd.prog W 0 (fun _ => true) true Tryd.f3.params.toList args.toList ds p := hA0
  rw [Tryd.params3] at hA hval
  obtain ⟨rfl, rfl, rfl⟩ := trodAll_none hA
  obtain ⟨rfl, rfl⟩ := trodVars_none hV
  clear hA0 hval0
  refine (walk_LexKnown  W hL ).mono fun e W' ⟨he, hg⟩ => ?_
  subst he
  exact ⟨_, rfl, _, _, _, [], [], [], hW', trodAll_mk1 (shut_bool Tryd.underlying4 _), trodAll_mk0, rfl, hg.frame _, fun h => by cases h⟩

theorem row_LexKnown : Rows.LexKnownSaid :=
  OpenClaim.holds_of_wide 3 Tryd.f3 rfl rfl rfl rfl rfl rfl rfl ⟨rfl, rfl, rfl, rfl, rfl⟩ rfl rfl rfl rfl rfl (by kernel_rfl) Tryd.func3 (by kernel_rfl)
    (of_decide_eq_true (by kernel_rfl)) (by unfold Func.isWrapper; first | (rw [if_pos (by decide +kernel)]; kernel_rfl) | (rw [if_neg (by decide +kernel)]; exact ⟨rfl, rfl⟩))
    (fun os started H enc _ => lifted_LexKnown os started H enc)

/-- THE STATEMENT. -/
theorem card_LexKnown : Rows.LexKnownCardSaid :=
  Claim7.holds_tied_plain_at .later [] [.data, .data, .data, .sentinel, .sentinel] true (true, "dde628f0a3a5436c45470330a809e8b5ebe7b9125131689328d3ac4f873d1552") true
    row_LexKnown (fun _ h => by cases h) (by kernel_rfl) (fun _ h => by cases h) lexKnown_row_tie rfl ⟨rfl, rfl⟩ (by kernel_rfl) rfl
    (fun f fn hf hfn => by
      obtain rfl : f = 3 := Option.some.inj ((show Tryd.prog.funcNamed "gantline/gantlinelaw19.LexKnown" = some 3 by kernel_rfl).symm.trans hf) |>.symm
      obtain rfl : fn = Tryd.f3 := (Option.some.inj (Tryd.func3.symm.trans hfn)).symm
      exact ⟨by kernel_rfl, fun j t ht => by
        rw [Tryd.params3] at ht
        simp at ht⟩)
    (by kernel_rfl)
#print axioms card_LexKnown
end Go.Proofs.YtodfcmmdnobdhaaDoor
