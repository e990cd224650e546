/- awake() of package gantlinelaw5 answers true. -/
import Derived.Test.YtbgmaifllndpfaaDoorAllocCalls2
namespace Go.Proofs.YtbgmaifllndpfaaDoor
open Go.RowKit Go.Maps Go.ChangeShapes Go.WideShapes Go.ChangeAt

theorem made8 {W w : World} (hb : Hid (Below W.heap.size W w)) (ht : Hid (Tab W)) :
    Calls Tryd.prog 8 #[.int .i64 8] w fun e w' => ∃ (x : Ld) (b : Nat), e = .returned (.tuple #[.pointer (some ⟨x.lb, 0, none⟩), .pointer (some ⟨x.d.ab, 0, none⟩), .pointer (some ⟨b, 0, none⟩)]) ∧ StL W w' x (al0 8) :=
  made_any 8 (by decide) (by decide) hb ht

/-- One taking, told ahead. -/
theorem l_take_as {W w : World} {x : Ld} {l l' : Al} {m v e : Int} (h : Hid (StL W w x l)) (hR : l.take m = (l', v, e)) :
    Calls Tryd.prog 9 #[.pointer (some ⟨x.lb, 0, none⟩), .int .i64 m] w fun r w' => r = .returned (.tuple #[.int .i64 v, .int .i64 e]) ∧ StL W w' x l' := by
  have := l_take h m
  rw [hR] at this
  exact this.mono fun _ _ hh => ⟨hh.1, hh.2.1⟩

set_option maxHeartbeats 2000000 in
set_option maxRecDepth 100000 in
theorem awake5_core (w : World) (ht : Hid (Tab w)) (l1 l2 l3 l4 l5 : Al) (e1 : (al0 8).take 2 = (l1, 64, 0)) (e2 : l1.take 64 = (l2, 128, 0)) (e3 : l2.take 2 = (l3, 66, 0)) (e4 : l3.a.used l3.a.n = 68) (e5 : l3.stale = l4)
    (e6 : (unsN l4.u l4.a.n : Int) = 2) (e7 : l4.unsw 1 = true) (e8 : (leastU l4.u l4.a.n 0).isSome = true) (e8' : l4.sweepOne = l5) (e9 : (unsN l5.u l5.a.n : Int) = 1) (e10 : l5.a.is 64 = false) :
    Calls Tryd.prog 7 #[] w fun e w' => e = .returned (.bool true) ∧ G w w' := by
  have hb : Hid (Below w.heap.size w w) := G.refl w
  go_enter Tryd.func7, Tryd.ntmps7
  go_wp2_with fail
  refine (made8 hb ht).mono ?_
  rintro e w1 ⟨x, b, rfl, S⟩
  replace S := hide S
  go_wp2_with fail
  refine (l_take_as S e1).mono ?_
  rintro e w2 ⟨rfl, S2⟩
  clear S
  replace S := hide S2
  clear S2
  go_wp2_with fail
  refine (l_take_as S e2).mono ?_
  rintro e w3 ⟨rfl, S2⟩
  clear S
  replace S := hide S2
  clear S2
  go_wp2_with fail
  refine (l_take_as S e3).mono ?_
  rintro e w4 ⟨rfl, S2⟩
  clear S
  replace S := hide S2
  clear S2
  go_wp2_with fail
  refine (l_used S).mono ?_
  rw [e4]
  rintro e w5 ⟨rfl, S2, _⟩
  clear S
  replace S := hide S2
  clear S2
  go_wp2_with fail
  refine (l_stale S).mono ?_
  rw [e5]
  rintro e w6 ⟨rfl, S2, _⟩
  clear S
  replace S := hide S2
  clear S2
  go_wp2_with fail
  refine (l_left S).mono ?_
  rw [e6]
  rintro e w7 ⟨rfl, hw⟩
  subst hw
  go_wp2_with fail
  refine (l_unsw S 1).mono ?_
  rw [e7]
  rintro e w8 ⟨rfl, hw⟩
  subst hw
  go_wp2_with fail
  refine (l_sweepOne S).mono ?_
  rw [e8, e8']
  rintro e w9 ⟨rfl, S2, _⟩
  clear S
  replace S := hide S2
  clear S2
  go_wp2_with fail
  refine (l_left S).mono ?_
  rw [e9]
  rintro e w10 ⟨rfl, hw⟩
  subst hw
  go_wp2_with fail
  refine (ls_is S 64).mono ?_
  rw [e10]
  rintro e w11 ⟨rfl, S2, _⟩
  clear S
  replace S := hide S2
  clear S2
  go_wp2_with fail
  go_ret
  exact ⟨rfl, (unhide S).below⟩

theorem pair_of {α : Type} {r : α × Int × Int} {v e : Int} (h : r.2 = (v, e)) : r = (r.1, v, e) := by
  obtain ⟨a, b⟩ := r
  simp only at h
  rw [h]
theorem awake5 (w : World) (ht : Tab w) : Calls Tryd.prog 7 #[] w fun e w' => e = .returned (.bool true) ∧ G w w' :=
  awake5_core w (hide ht) _ _ _ _ _ (pair_of (by decide +kernel)) (pair_of (by decide +kernel)) (pair_of (by decide +kernel)) (by decide +kernel) rfl (by decide +kernel) (by decide +kernel) (by decide +kernel) rfl (by decide +kernel) (by decide +kernel)
end Go.Proofs.YtbgmaifllndpfaaDoor
