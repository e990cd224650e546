/- gantlinelaw19's awake answers true. -/
import Derived.Test.YtodfcmmdnobdhaaDoorLexCut
import Derived.Test.YtodfcmmdnobdhaaDoorLexF
namespace Go.Proofs.YtodfcmmdnobdhaaDoor
set_option maxRecDepth 100000
open Go.RowKit Go.Maps Go.ChangeShapes Go.WideShapes Go.ChangeAt Go.Deep

theorem CutTo.ok {w : World} {ws : List Wd} {e : Ending} {w' : World} (h : CutTo w (ws, none) e w') (h0 : ws ≠ []) :
    ∃ g cap, e = .returned (.tuple #[.slice (some ⟨g, 0, none⟩) ws.length cap, .int .i64 0, .int .i64 0]) ∧ G w w' ∧ ws.length ≤ cap ∧ w.heap.size ≤ g ∧ g < w'.heap.size ∧ OwW 33 w' w.heap.size (.slice (some ⟨g, 0, none⟩) ws.length cap) ws ∧ ∀ x, G w' x → ∀ k a, ws[k]? = some a →
      x.cell? ⟨g, k * 3, none⟩ = some (.int .i64 (a.k : Nat)) ∧ x.cell? ⟨g, k * 3 + 1, none⟩ = some (.string ⟨a.x.toArray⟩) ∧ x.cell? ⟨g, k * 3 + 2, none⟩ = some (.int .i64 (a.o : Nat)) := by
  obtain ⟨hg, h⟩ := h
  rcases h with ⟨o, ho, _⟩ | ⟨_, v, he, hw⟩
  · cases ho
  · obtain ⟨g, cap, rfl, h1, h2, h3, h4⟩ := hw.get h0
    exact ⟨g, cap, he, hg, h3, h1, h2, hw, h4⟩
theorem CutTo.bad {w : World} {ws : List Wd} {o : Nat} {e : Ending} {w' : World} (h : CutTo w (ws, some o) e w') : e = .returned (.tuple #[.slice none 0 0, .int .i64 (o : Int), .int .i64 6]) ∧ G w w' := by
  obtain ⟨hg, h⟩ := h
  rcases h with ⟨o', ho, he⟩ | ⟨h, _⟩
  · cases ho
    exact ⟨he, hg⟩
  · cases h

set_option maxHeartbeats 4000000 in
theorem awake_any (w : World) (hE : EvAt w) : Calls Tryd.prog 7 #[] w fun e w' => e = .returned (.bool true) ∧ G w w' := by
  have C1 : Hid (Calls Tryd.prog 8 #[.string ⟨#[120, 61, 49, 50]⟩] w fun e w1 => ∃ g cap, e = .returned (.tuple #[.slice (some ⟨g, 0, none⟩) 4 cap, .int .i64 0, .int .i64 0]) ∧ G w w1 ∧ 4 ≤ cap ∧ ∀ x, G w1 x →
      x.cell? ⟨g, 0, none⟩ = some (.int .i64 1) ∧ x.cell? ⟨g, 1, none⟩ = some (.string ⟨#[120]⟩) ∧ x.cell? ⟨g, 2, none⟩ = some (.int .i64 0) ∧
      x.cell? ⟨g, 3, none⟩ = some (.int .i64 4) ∧ x.cell? ⟨g, 4, none⟩ = some (.string ⟨#[61]⟩) ∧ x.cell? ⟨g, 5, none⟩ = some (.int .i64 1) ∧
      x.cell? ⟨g, 6, none⟩ = some (.int .i64 3) ∧ x.cell? ⟨g, 7, none⟩ = some (.string ⟨#[49, 50]⟩) ∧ x.cell? ⟨g, 8, none⟩ = some (.int .i64 2) ∧
      x.cell? ⟨g, 9, none⟩ = some (.int .i64 0) ∧ x.cell? ⟨g, 10, none⟩ = some (.string ⟨#[]⟩) ∧ x.cell? ⟨g, 11, none⟩ = some (.int .i64 4)) := hide (by
    have h := lexcut_any ⟨#[120, 61, 49, 50]⟩ w (by decide) hE
    rw [show (⟨#[120, 61, 49, 50]⟩ : ByteArray).data.toList = [120, 61, 49, 50] from rfl, cut_x12] at h
    refine h.mono fun e w1 h => ?_
    obtain ⟨g, cap, he, hg, h1, _, _, _, h4⟩ := h.ok (by simp)
    refine ⟨g, cap, he, hg, h1, fun x gx => ?_⟩
    have a0 := h4 x gx 0 _ rfl
    have a1 := h4 x gx 1 _ rfl
    have a2 := h4 x gx 2 _ rfl
    have a3 := h4 x gx 3 _ rfl
    exact ⟨a0.1, a0.2.1, a0.2.2, a1.1, a1.2.1, a1.2.2, a2.1, a2.2.1, a2.2.2, a3.1, a3.2.1, a3.2.2⟩)
  have C2 : Hid (∀ w1, G w w1 → Calls Tryd.prog 8 #[.string ⟨#[35]⟩] w1 fun e w2 => e = .returned (.tuple #[.slice none 0 0, .int .i64 0, .int .i64 6]) ∧ G w1 w2) := hide fun w1 g => by
    have h := lexcut_any ⟨#[35]⟩ w1 (by decide) (hE.g g)
    rw [show (⟨#[35]⟩ : ByteArray).data.toList = [35] from rfl, cut_sharp] at h
    exact h.mono fun e w2 h => h.bad
  have K1 : Hid (∀ w, Calls Tryd.prog 9 #[.string ⟨#[102, 117, 110, 99]⟩] w fun e w' => e = .returned (.bool true) ∧ w' = w) := hide fun w => by
    have h := kept_any ⟨#[102, 117, 110, 99]⟩ w
    rwa [show (⟨#[102, 117, 110, 99]⟩ : ByteArray).data.toList = [102, 117, 110, 99] from rfl, kept_func] at h
  have K2 : Hid (∀ w, Calls Tryd.prog 9 #[.string ⟨#[120]⟩] w fun e w' => e = .returned (.bool false) ∧ w' = w) := hide fun w => by
    have h := kept_any ⟨#[120]⟩ w
    rwa [show (⟨#[120]⟩ : ByteArray).data.toList = [120] from rfl, kept_x] at h
  clear hE
  go_enter Tryd.func7, Tryd.ntmps7
  go_wp2_with fail
  refine (unhide C1).mono ?_
  rintro e w1 ⟨g, cap, rfl, hg1, hcap, hc⟩
  have C2' := hide (unhide C2 w1 hg1)
  replace hg1 := hide hg1
  replace hc := hide hc
  clear C1 C2
  go_wp2_with fail
  refine (unhide C2').mono ?_
  rintro e w2 ⟨rfl, hg2⟩
  obtain ⟨c0, c1, c2, c3, c4, c5, c6, c7, c8, c9, c10, c11⟩ := unhide hc w2 hg2
  replace hg2 := hide hg2
  clear C2' hc
  go_wp2_with fail
  refine (unhide K1 _).mono ?_
  rintro e w3 ⟨rfl, rfl⟩
  go_wp2_with fail
  refine (unhide K2 _).mono ?_
  rintro e w4 ⟨rfl, rfl⟩
  go_wp2_with fail
  go_ret
  exact ⟨rfl, G.trans (unhide hg1) (unhide hg2)⟩
end Go.Proofs.YtodfcmmdnobdhaaDoor
