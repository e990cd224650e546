/- MarkKnown of package gantlinelaw7: the law answers true; nothing that was there is turned. -/
import Derived.Test.YtinehimleldkdaaGreatDoorMarkAwake
namespace Go.Proofs.YtinehimleldkdaaGreatDoor
set_option maxRecDepth 100000
open Go.ChangeShapes Go.WideShapes Go.ChangeAt Go.RowKit Go.Maps Go.Deep

theorem Ms.shade_no {M : Ms} {x : Int} (h : M.al.a.markB x = false) : M.shade x = M := by
  have hb : ¬ M.al.a.markB x = true := by rw [h]; simp
  unfold Ms.shade Ab.markA
  rw [if_neg hb, if_neg hb]
theorem reach_none {is : Int → Bool} {F : Int → List Int} {S fnd : List Int} (hs : ∀ x ∈ S, is x = false) (hm : ∀ z, z ∈ fnd ↔ Rch is F S z) : fnd = [] := by
  rw [List.eq_nil_iff_forall_not_mem]
  intro z hz
  exact Rch.least (P := fun _ => False) (fun y hy hi => by rw [hs y hy] at hi; cases hi) (fun _ _ h _ _ => h) ((hm z).1 hz)

set_option maxHeartbeats 4000000 in
theorem known7_core (world_any : WorldC) (w : World) (ht : Hid (Tab w)) (M : Ms) (hM : Hid ((⟨(wld 8 []).1, kinds, []⟩ : Ms) = M)) (o : Hid (∀ y, wfI (M.al.a.wd y))) (hg : Hid (M.g = [])) (b0 : Hid (M.al.a.markB 0 = false)) (b1 : Hid (M.al.a.markB 64 = false)) (f0 : Hid (M.flds 64 = [])) (is_ : Hid (∀ x ∈ [(1 : Int), 2, 64], M.al.a.is x = false)) :
    Calls Tryz.prog 3 #[] w fun e w' => e = .returned (.bool true) ∧ G w w' := by
  go_enter Tryz.func3, Tryz.ntmps3
  go_wp2_with fail
  refine (awake7 world_any w (unhide ht)).mono ?_
  rintro r w1 ⟨rfl, g1⟩
  have CW := hide (world_any w1 (hide ((unhide ht).later g1)) 8 (by decide) (by decide) none 0 0 [] (hide rfl) (by decide) (hide (Or.inl rfl)))
  rw [unhide hM] at CW
  replace g1 := hide g1
  go_wp2_with fail
  refine (unhide CW).mono ?_
  rintro r w2 ⟨L, bo, cb, rfl, X, _⟩
  have X2 := X.sub (E' := []) fun _ hd => by cases hd
  obtain ⟨A, hA1, hA2⟩ := X2.few
  clear X
  have CT : Hid (∀ wx, MS w1 wx L M M 0 [] → Calls Tryz.prog 10 #[.pointer (some ⟨L.kb, 0, none⟩)] wx fun r w' => r = .returned (.bool false) ∧ MS w1 w' L M M 0 []) := hide fun wx h => (m_step_none (hide h) (unhide hg)).mono fun _ _ hh => ⟨hh.1, by rw [hh.2]; exact h⟩
  have C0 : Hid (∀ wx, MS w1 wx L M M 0 [] → Calls Tryz.prog 11 #[.pointer (some ⟨L.kb, 0, none⟩), .int .i64 0] wx fun r w' => r = .returned (.bool false) ∧ MS w1 w' L M M 0 []) := hide fun wx h => (m_shade (hide h) (by rw [unhide hg]; simp) 0).mono fun _ _ hh => ⟨by rw [hh.1, unhide b0], by have := hh.2.1; rw [Ms.shade_no (unhide b0)] at this; exact this⟩
  have C1 : Hid (∀ wx, MS w1 wx L M M 0 [] → Calls Tryz.prog 11 #[.pointer (some ⟨L.kb, 0, none⟩), .int .i64 64] wx fun r w' => r = .returned (.bool false) ∧ MS w1 w' L M M 0 []) := hide fun wx h => (m_shade (hide h) (by rw [unhide hg]; simp) 64).mono fun _ _ hh => ⟨by rw [hh.1, unhide b1], by have := hh.2.1; rw [Ms.shade_no (unhide b1)] at this; exact this⟩
  have CF : Hid (∀ wx, MS w1 wx L M M 0 [] → Calls Tryz.prog 12 #[.pointer (some ⟨L.kb, 0, none⟩), .int .i64 64] wx fun r w' => (∃ ao cap, r = .returned (.slice ao 0 cap)) ∧ MS w1 w' L M M 0 []) := hide fun wx h => by
    have := m_fields (hide h) 64
    rw [unhide f0] at this
    exact this.mono fun _ _ ⟨ao, cap, h1, _, h3⟩ => ⟨⟨ao, cap, h1⟩, h.gr h3⟩
  have CR : Hid (∀ wx, MS w1 wx L M M 0 [] → Calls Tryz.prog 13 #[.pointer (some ⟨L.kb, 0, none⟩), .slice (some ⟨wx.heap.size, 0, none⟩) 3 3] (wx.alloc (.cells #[.int .i64 1, .int .i64 2, .int .i64 64] 2)) fun r w' => (∃ ao cap, r = .returned (.slice ao 0 cap)) ∧ MS w1 w' L M M 0 []) := hide fun wx h => by
    have h' := h.gr (G.alloc wx (.cells #[.int .i64 1, .int .i64 2, .int .i64 64] 2))
    refine (m_reach (hide h') (bo := some ⟨wx.heap.size, 0, none⟩) (cb := 3) (n := 3) (ys := [1, 2, 64]) (A := A) rfl (by decide) o (hide fun y hy => ?_) (hide (Or.inr ⟨wx.heap.size, 0, rfl, by rw [World.size_alloc]; omega, fun i x hi => ?_⟩)) (hide fun d hd => by simp [Gy.blk] at hd; subst hd; rw [World.size_alloc]; omega) (hide hA2) (by omega)).mono fun _ _ ⟨ao, cap, fnd, h1, _, h3, _, h5⟩ => ?_
    · simp at hy
      rcases hy with e | e | e <;> subst e <;> exact wf_small (by decide) (by decide)
    · match i, hi with
      | 0, hi => cases hi; exact World.cell?_alloc_new _ _ _ 0
      | 1, hi => cases hi; exact World.cell?_alloc_new _ _ _ 1
      | 2, hi => cases hi; exact World.cell?_alloc_new _ _ _ 2
      | i + 3, hi => simp at hi
    · obtain rfl := reach_none (unhide is_) h5
      exact ⟨⟨ao, cap, h1⟩, h'.gr h3⟩
  have CL : Hid (∀ wx, MS w1 wx L M M 0 [] → Calls Tryz.prog 14 #[.pointer (some ⟨L.kb, 0, none⟩)] wx fun r w' => r = .returned (.int .i64 0) ∧ MS w1 w' L M M 0 []) := hide fun wx h => (m_left (hide h)).mono fun _ _ hh => ⟨by rw [hh.1, unhide hg]; rfl, by rw [hh.2]; exact h⟩
  have hend : Hid (∀ w', MS w1 w' L M M 0 [] → G w w') := hide fun w' h => (unhide g1).trans h.below
  clear CW hA1 hA2
  go_wp2_with fail
  refine (unhide CT _ X2).mono ?_
  rintro r w3 ⟨rfl, X3⟩
  go_wp2_with fail
  refine (unhide C0 _ X3).mono ?_
  rintro r w4 ⟨rfl, X4⟩
  go_wp2_with fail
  refine (unhide C1 _ X4).mono ?_
  rintro r w5 ⟨rfl, X5⟩
  go_wp2_with fail
  refine (unhide CF _ X5).mono ?_
  rintro r w6 ⟨⟨ao6, c6, rfl⟩, X6⟩
  go_wp2_with fail
  refine (unhide CR _ X6).mono ?_
  rintro r w7 ⟨⟨ao7, c7, rfl⟩, X7⟩
  go_wp2_with fail
  refine (unhide CL _ X7).mono ?_
  rintro r w8 ⟨rfl, X8⟩
  go_wp2_with fail
  go_ret
  exact ⟨rfl, unhide hend _ X8⟩
theorem walkC_MarkKnown (world_any : WorldC) (w : World) (ht : Tab w) : Calls Tryz.prog 3 #[] w fun e w' => e = .returned (.bool true) ∧ Below w.heap.size w w' :=
  known7_core world_any w (hide ht) _ (hide rfl) (hide (wld_ok (by decide) (by decide) (l := []) (fun t ht => by cases ht)).o.wf) (hide rfl) (hide (by decide +kernel)) (hide (by decide +kernel)) (hide (by decide +kernel)) (hide (by decide +kernel))
end Go.Proofs.YtinehimleldkdaaGreatDoor
