/- LiveKnown answers true. -/
import Derived.Test.YtpbeafgfhnlmbaaLiveAwake
import Derived.Test.YtpbeafgfhnlmbaaLiveOpen
namespace Go.Proofs.Ytpbeafgfhnlmbaa
set_option maxRecDepth 100000
open Go.RowKit Go.Maps Go.ChangeShapes Go.WideShapes Go.ChangeAt Go.Deep

/-- A module of three cases. -/
def exM : Md := ⟨[], [], [], [⟨0, 1, 2, 0⟩, ⟨1, 3, 4, 0⟩, ⟨2, 0, 0, 0⟩], [], 0⟩
def exF : Fn := ⟨0, 0, 0, 0, [], [], []⟩
abbrev agEx (cb : Nat) : Value := .agg #[.slice none 0 0, .slice none 0 0, .slice none 0 0, .slice (some ⟨cb, 0, none⟩) 3 3, .slice none 0 0, .int .i64 0]
theorem ex_cases (x : World) : ModR (x.alloc (.cells #[.int .i64 0, .int .i64 1, .int .i64 2, .int .i64 0, .int .i64 1, .int .i64 3, .int .i64 4, .int .i64 0, .int .i64 2, .int .i64 0, .int .i64 0, .int .i64 0] 24)) exM none 0 none 0 none 0 (some ⟨x.heap.size, 0, none⟩) 3 none 0 := by
  refine ⟨RowAt.nil _, RowAt.nil _, RowAt.nil _, ?_, RowAt.nil _, Nat.le_refl _⟩
  exact row_new (E := elCa) x exM.ca [.int .i64 0, .int .i64 1, .int .i64 2, .int .i64 0, .int .i64 1, .int .i64 3, .int .i64 4, .int .i64 0, .int .i64 2, .int .i64 0, .int .i64 0, .int .i64 0] 24 (by decide) (fun i a hi => by
    refine ⟨[.int .i64 a.k, .int .i64 a.c, .int .i64 a.v, .int .i64 a.t], fun _ => rfl, fun q u hq => ?_⟩
    match i, hi with
    | 0, hi => cases hi; match q, hq with
      | 0, hq => exact hq
      | 1, hq => exact hq
      | 2, hq => exact hq
      | 3, hq => exact hq
    | 1, hi => cases hi; match q, hq with
      | 0, hq => exact hq
      | 1, hq => exact hq
      | 2, hq => exact hq
      | 3, hq => exact hq
    | 2, hi => cases hi; match q, hq with
      | 0, hq => exact hq
      | 1, hq => exact hq
      | 2, hq => exact hq
      | 3, hq => exact hq)
def LenTo (n : Nat) (x : World) (e : Ending) (w' : World) : Prop := ∃ ao c, e = .returned (.slice ao n c) ∧ G x w'
theorem LTo.len {x : World} {l : List Int} {e : Ending} {w' : World} {n : Nat} (h : LTo x l e w') (hn : l.length = n) : LenTo n x e w' := by
  obtain ⟨v, rfl, ⟨ao, c, rfl, _⟩, g⟩ := h
  exact ⟨ao, c, by rw [hn], g⟩
theorem ex_oCa : ∀ s ∈ exM.ca, oCa s := by
  intro s hs
  simp [exM] at hs
  rcases hs with rfl | rfl | rfl <;> (unfold oCa oI; simp)
set_option maxHeartbeats 4000000 in
theorem walk_LiveKnown (w : World) : Calls Try.prog 3 #[] w fun e w' => e = .returned (.bool true) ∧ G w w' := by
  have RD : Hid (∀ x cb op A B C D l, ModR x exM none 0 none 0 none 0 (some ⟨cb, 0, none⟩) 3 none 0 → oI A → rdP exM ⟨op, A, B, C, D⟩ = l → Calls Try.prog 9 #[agEx cb, .agg #[.int .i64 op, .int .i64 A, .int .i64 B, .int .i64 C, .int .i64 D]] x (LTo x l)) := hide fun x cb op A B C D l h oA e => by
    have := reads_any x exM none 0 none 0 none 0 (some ⟨cb, 0, none⟩) 3 none 0 h ⟨op, A, B, C, D⟩ oA (by decide)
    rw [e] at this
    exact this
  have WR : Hid (∀ x op A B C D l, wrP ⟨op, A, B, C, D⟩ = l → Calls Try.prog 11 #[.agg #[.int .i64 op, .int .i64 A, .int .i64 B, .int .i64 C, .int .i64 D]] x (LTo x l)) := hide fun x op A B C D l e => by
    have := writes_any x ⟨op, A, B, C, D⟩
    rw [e] at this
    exact this
  have SE : Hid (∀ x cb, ModR x exM none 0 none 0 none 0 (some ⟨cb, 0, none⟩) 3 none 0 → Calls Try.prog 12 #[agEx cb, .agg #[.int .i64 0, .int .i64 0, .int .i64 0, .int .i64 0, .slice none 0 0, .slice none 0 0, .slice none 0 0]] x (LenTo 0 x)) := hide fun x cb h =>
    (sets_any x exM none 0 none 0 none 0 (some ⟨cb, 0, none⟩) 3 none 0 exF none 0 none 0 none 0 h (RowAt.nil x) (fun i hi => by cases hi) ex_oCa (by decide) (by decide)).mono (fun e w' h => by
      obtain ⟨st, b, e1, e2, e3, e4, e5⟩ := h
      exact ⟨some ⟨b, 0, none⟩, 0, e1, e4⟩)
  have IN : Hid (∀ x v l, IsL x v l → l.length ≤ 10 → ∀ y, G x y → Calls Try.prog 10 #[v, .slice (some ⟨y.heap.size, 0, none⟩) l.length l.length] (y.alloc (.cells (l.map (Value.int .i64)).toArray 3)) fun e w' => e = .returned (.bool true) ∧ G y w') := hide fun x v l hL hl y g => by
    have ga := G.alloc y (.cells (l.map (Value.int .i64)).toArray 3)
    have := ints_any (y.alloc (.cells (l.map (Value.int .i64)).toArray 3)) _ _ l l (hL.g (g.trans ga)) (isl_new y l (by unfold maxLen; omega)) (by omega) (by omega)
    refine this.mono (fun e w' h => ⟨?_, ga.trans h.2⟩)
    rw [h.1]
    simp
  have AK := hide (awake_any w)
  go_enter Try.func3, Try.ntmps3
  go_wp2_with fail
  refine (unhide AK).mono ?_
  rintro e x1 ⟨rfl, g1⟩
  obtain ⟨W1, hW1⟩ : ∃ W1, W1 = (x1.alloc (.cells #[.int .i64 0, .int .i64 1, .int .i64 2, .int .i64 0, .int .i64 1, .int .i64 3, .int .i64 4, .int .i64 0, .int .i64 2, .int .i64 0, .int .i64 0, .int .i64 0] 24)).alloc (.cells #[.slice none 0 0, .slice none 0 0, .slice none 0 0, .slice (some ⟨x1.heap.size, 0, none⟩) 3 3, .slice none 0 0, .int .i64 0] 31) := ⟨_, rfl⟩
  have MR : Hid (ModR W1 exM none 0 none 0 none 0 (some ⟨x1.heap.size, 0, none⟩) 3 none 0) := hide (by rw [hW1]; exact (ex_cases x1).g (G.alloc _ _))
  have gw : Hid (G w W1) := hide (by rw [hW1]; exact (g1.more _).more _)
  have MC : Hid (∀ x, G W1 x → x.cell? ⟨x1.heap.size + 1, 0, none⟩ = some (.slice none 0 0) ∧ x.cell? ⟨x1.heap.size + 1, 1, none⟩ = some (.slice none 0 0) ∧ x.cell? ⟨x1.heap.size + 1, 2, none⟩ = some (.slice none 0 0) ∧ x.cell? ⟨x1.heap.size + 1, 3, none⟩ = some (.slice (some ⟨x1.heap.size, 0, none⟩) 3 3) ∧ x.cell? ⟨x1.heap.size + 1, 4, none⟩ = some (.slice none 0 0) ∧ x.cell? ⟨x1.heap.size + 1, 5, none⟩ = some (.int .i64 0)) := hide fun x g => ⟨g.cell (by rw [hW1]; simp [go_sem]), g.cell (by rw [hW1]; simp [go_sem]), g.cell (by rw [hW1]; simp [go_sem]), g.cell (by rw [hW1]; simp [go_sem]), g.cell (by rw [hW1]; simp [go_sem]), g.cell (by rw [hW1]; simp [go_sem])⟩
  clear AK g1
  go_upto_region 4 with fail
  rw [← hW1]
  obtain ⟨cb, hcb⟩ : ∃ cb, cb = x1.heap.size := ⟨_, rfl⟩
  rw [← hcb] at MR MC ⊢
  clear hW1 hcb
  obtain ⟨m0, m1, m2, m3, m4, m5⟩ := unhide MC W1 (G.refl _)
  have C1 := hide (unhide RD W1 cb 41 0 3 0 0 [1, 3, 4] (unhide MR) (by unfold oI; simp) (by decide))
  go_wp2_with fail
  refine (unhide C1).mono ?_
  rintro e x2 ⟨rv, rfl, L1, g2⟩
  have C2 := hide (unhide IN x2 rv [1, 3, 4] L1 (by decide) x2 (G.refl _))
  replace g2 := hide g2
  clear C1 L1 m0 m1 m2 m3 m4 m5
  go_wp2_with fail
  refine (unhide C2).mono ?_
  rintro e x3 ⟨rfl, g3⟩
  have G3 := hide ((unhide g2).trans g3)
  obtain ⟨m0, m1, m2, m3, m4, m5⟩ := unhide MC x3 (unhide G3)
  have C3 := hide ((unhide RD x3 cb 41 1 3 0 0 [] ((unhide MR).g (unhide G3)) (by unfold oI; simp) (by decide)).mono (fun e w' h => h.len (n := 0) rfl))
  clear C2 g2 g3
  go_wp2_with fail
  refine (unhide C3).mono ?_
  rintro e x4 ⟨ao4, c4, rfl, g4⟩
  have G4 := hide ((unhide G3).trans g4)
  clear m0 m1 m2 m3 m4 m5
  obtain ⟨m0, m1, m2, m3, m4, m5⟩ := unhide MC x4 (unhide G4)
  have C4 := hide ((unhide RD x4 cb 22 (-1) 0 0 0 [] ((unhide MR).g (unhide G4)) (by unfold oI; simp) (by decide)).mono (fun e w' h => h.len (n := 0) rfl))
  clear C3 G3 g4
  go_wp2_with fail
  refine (unhide C4).mono ?_
  rintro e x5 ⟨ao5, c5, rfl, g5⟩
  have G5 := hide ((unhide G4).trans g5)
  have C5 := hide (unhide WR x5 39 1 0 2 0 [1, 2] (by decide))
  clear C4 G4 g5 m0 m1 m2 m3 m4 m5
  go_wp2_with fail
  refine (unhide C5).mono ?_
  rintro e x6 ⟨wv, rfl, L6, g6⟩
  have G6 := hide ((unhide G5).trans g6)
  have C6 := hide (unhide IN x6 wv [1, 2] L6 (by decide) x6 (G.refl _))
  clear C5 G5 g6 L6
  go_wp2_with fail
  refine (unhide C6).mono ?_
  rintro e x7 ⟨rfl, g7⟩
  have G7 := hide ((unhide G6).trans g7)
  have C7 := hide ((unhide WR x7 41 0 0 0 0 [] (by decide)).mono (fun e w' h => h.len (n := 0) rfl))
  clear C6 G6 g7
  go_wp2_with fail
  refine (unhide C7).mono ?_
  rintro e x8 ⟨ao8, c8, rfl, g8⟩
  have G8 := hide ((unhide G7).trans g8)
  obtain ⟨m0, m1, m2, m3, m4, m5⟩ := unhide MC x8 (unhide G8)
  have C8 := hide (unhide SE x8 cb ((unhide MR).g (unhide G8)))
  clear C7 G7 g8
  go_wp2_with fail
  refine (unhide C8).mono ?_
  rintro e x9 ⟨ao9, c9, rfl, g9⟩
  have G9 := hide ((unhide G8).trans g9)
  clear m0 m1 m2 m3 m4 m5
  obtain ⟨m0, m1, m2, m3, m4, m5⟩ := unhide MC x9 (unhide G9)
  have C9 := hide ((unhide RD x9 cb 21 0 0 0 65 [0] ((unhide MR).g (unhide G9)) (by unfold oI; simp) (by decide)).mono (fun e w' h => h.len (n := 1) rfl))
  clear C8 G8 g9
  go_wp2_with fail
  refine (unhide C9).mono ?_
  rintro e x10 ⟨ao10, c10, rfl, g10⟩
  have K : Hid (G w x10) := hide ((unhide gw).trans ((unhide G9).trans g10))
  clear C9 G9 g10 m0 m1 m2 m3 m4 m5
  go_wp2_with fail
  go_ret
  exact ⟨rfl, unhide K⟩

set_option maxRecDepth 100000 in
theorem lifted_LiveKnown (os : Os) (started : os.Started) (H : Type) (enc : TypeId × Value → H) :
    ReturnsInHanded {} Try.checked os 3 .any (Rows.liveKnownSpec.pre6 enc Try.prog Try.f3 Rows.liveKnownRow.domain false) (Rows.liveKnownSpec.post enc Try.prog Try.f3 false true false false) := by
  refine returnsInHanded_of_change (C := Try.checked) own started (by kernel_rfl) Try.func3
    (ChangeSpec.witness6 (enc := enc) (C := Try.checked) false ⟨#[], #[], []⟩ 8 (by kernel_rfl) (by kernel_rfl) (by kernel_rfl) (by kernel_rfl)) ?_
  intro W base args ds gs before hval0 hW _ _
  have hval : ∀ (j : Nat) t v, Try.f3.params[j]? = some t → args[j]? = some v → Value.okWide Try.prog W .any base t v := hval0
  have hW' := hW
  obtain ⟨p, q, hA0, hV, rfl, hfz, hnd⟩ := hW
  have hA : DataW.TrodAll enc Try.prog W 0 (fun _ => true) true Try.f3.params.toList args.toList ds p := hA0
  rw [Try.params3] at hA hval
  obtain ⟨rfl, rfl, rfl⟩ := trodAll_none hA
  obtain ⟨rfl, rfl⟩ := trodVars_none hV
  clear hA0 hval0
  refine (walk_LiveKnown  W).mono fun e W' ⟨he, hg⟩ => ?_
  subst he
  exact ⟨_, rfl, _, _, _, [], _, [], hW', trodAll_mk1 (shut_bool Try.underlying4 _), trodAll_mk0, rfl, hg.frame _, fun h => by cases h⟩

/-- THE STATEMENT. -/
theorem said_LiveKnown : Rows.LiveKnownSaid :=
  OpenClaim.holds_of_wide 3 Try.f3 rfl rfl rfl rfl rfl rfl rfl ⟨rfl, rfl, rfl, rfl, rfl⟩ rfl rfl rfl rfl rfl (by kernel_rfl) Try.func3 (by kernel_rfl)
    (of_decide_eq_true (by kernel_rfl)) (by unfold Func.isWrapper; first | (rw [if_pos (by decide +kernel)]; kernel_rfl) | (rw [if_neg (by decide +kernel)]; exact ⟨rfl, rfl⟩))
    (fun os started H enc _ => lifted_LiveKnown os started H enc)
#print axioms said_LiveKnown
end Go.Proofs.Ytpbeafgfhnlmbaa
