/- Writes of package live. -/
import Derived.Test.YtnliooflpclcbaaGreatDoorLiveReads1
namespace Go.Proofs.YtnliooflpclcbaaGreatDoor
set_option maxRecDepth 100000
open Go.RowKit Go.Maps Go.ChangeShapes Go.WideShapes Go.ChangeAt Go.Deep

set_option maxHeartbeats 1000000 in
theorem writes_0 (w : World) (A B C D : Int) : Calls Tryz.prog 35 #[agI ⟨0, A, B, C, D⟩] w (LTo w (wrP ⟨0, A, B, C, D⟩)) := by
  have K := hide (lto_new (w := w) (x := (w.alloc (.cells #[.int .i64 0, .int .i64 A, .int .i64 B, .int .i64 C, .int .i64 D] 41))) (l := wrP ⟨0, A, B, C, D⟩) (G.alloc _ _) [A] (by rfl) (by simp))
  unfold agI
  go_enter Tryz.func35, Tryz.ntmps35
  go_wp2_with fail
  refine bodyPost_ret (by simp [results, Tryz.results35, go_sem]; try rfl) rfl ?_
  have := unhide K
  simpa [World.size_alloc] using this
set_option maxHeartbeats 1000000 in
theorem writes_1 (w : World) (A B C D : Int) : Calls Tryz.prog 35 #[agI ⟨1, A, B, C, D⟩] w (LTo w (wrP ⟨1, A, B, C, D⟩)) := by
  have K := hide (lto_new (w := w) (x := (w.alloc (.cells #[.int .i64 1, .int .i64 A, .int .i64 B, .int .i64 C, .int .i64 D] 41))) (l := wrP ⟨1, A, B, C, D⟩) (G.alloc _ _) [A] (by rfl) (by simp))
  unfold agI
  go_enter Tryz.func35, Tryz.ntmps35
  go_wp2_with fail
  refine bodyPost_ret (by simp [results, Tryz.results35, go_sem]; try rfl) rfl ?_
  have := unhide K
  simpa [World.size_alloc] using this
set_option maxHeartbeats 1000000 in
theorem writes_2 (w : World) (A B C D : Int) : Calls Tryz.prog 35 #[agI ⟨2, A, B, C, D⟩] w (LTo w (wrP ⟨2, A, B, C, D⟩)) := by
  have K := hide (lto_new (w := w) (x := (w.alloc (.cells #[.int .i64 2, .int .i64 A, .int .i64 B, .int .i64 C, .int .i64 D] 41))) (l := wrP ⟨2, A, B, C, D⟩) (G.alloc _ _) [A] (by rfl) (by simp))
  unfold agI
  go_enter Tryz.func35, Tryz.ntmps35
  go_wp2_with fail
  refine bodyPost_ret (by simp [results, Tryz.results35, go_sem]; try rfl) rfl ?_
  have := unhide K
  simpa [World.size_alloc] using this
set_option maxHeartbeats 1000000 in
theorem writes_3 (w : World) (A B C D : Int) : Calls Tryz.prog 35 #[agI ⟨3, A, B, C, D⟩] w (LTo w (wrP ⟨3, A, B, C, D⟩)) := by
  have K := hide (lto_new (w := w) (x := (w.alloc (.cells #[.int .i64 3, .int .i64 A, .int .i64 B, .int .i64 C, .int .i64 D] 41))) (l := wrP ⟨3, A, B, C, D⟩) (G.alloc _ _) [A] (by rfl) (by simp))
  unfold agI
  go_enter Tryz.func35, Tryz.ntmps35
  go_wp2_with fail
  refine bodyPost_ret (by simp [results, Tryz.results35, go_sem]; try rfl) rfl ?_
  have := unhide K
  simpa [World.size_alloc] using this
set_option maxHeartbeats 1000000 in
theorem writes_4 (w : World) (A B C D : Int) : Calls Tryz.prog 35 #[agI ⟨4, A, B, C, D⟩] w (LTo w (wrP ⟨4, A, B, C, D⟩)) := by
  have K := hide (lto_new (w := w) (x := (w.alloc (.cells #[.int .i64 4, .int .i64 A, .int .i64 B, .int .i64 C, .int .i64 D] 41))) (l := wrP ⟨4, A, B, C, D⟩) (G.alloc _ _) [A] (by rfl) (by simp))
  unfold agI
  go_enter Tryz.func35, Tryz.ntmps35
  go_wp2_with fail
  refine bodyPost_ret (by simp [results, Tryz.results35, go_sem]; try rfl) rfl ?_
  have := unhide K
  simpa [World.size_alloc] using this
set_option maxHeartbeats 1000000 in
theorem writes_5 (w : World) (A B C D : Int) : Calls Tryz.prog 35 #[agI ⟨5, A, B, C, D⟩] w (LTo w (wrP ⟨5, A, B, C, D⟩)) := by
  have K := hide (lto_new (w := w) (x := (w.alloc (.cells #[.int .i64 5, .int .i64 A, .int .i64 B, .int .i64 C, .int .i64 D] 41))) (l := wrP ⟨5, A, B, C, D⟩) (G.alloc _ _) [A] (by rfl) (by simp))
  unfold agI
  go_enter Tryz.func35, Tryz.ntmps35
  go_wp2_with fail
  refine bodyPost_ret (by simp [results, Tryz.results35, go_sem]; try rfl) rfl ?_
  have := unhide K
  simpa [World.size_alloc] using this
set_option maxHeartbeats 1000000 in
theorem writes_6 (w : World) (A B C D : Int) : Calls Tryz.prog 35 #[agI ⟨6, A, B, C, D⟩] w (LTo w (wrP ⟨6, A, B, C, D⟩)) := by
  have K := hide (lto_new (w := w) (x := (w.alloc (.cells #[.int .i64 6, .int .i64 A, .int .i64 B, .int .i64 C, .int .i64 D] 41))) (l := wrP ⟨6, A, B, C, D⟩) (G.alloc _ _) [A] (by rfl) (by simp))
  unfold agI
  go_enter Tryz.func35, Tryz.ntmps35
  go_wp2_with fail
  refine bodyPost_ret (by simp [results, Tryz.results35, go_sem]; try rfl) rfl ?_
  have := unhide K
  simpa [World.size_alloc] using this
set_option maxHeartbeats 1000000 in
theorem writes_7 (w : World) (A B C D : Int) : Calls Tryz.prog 35 #[agI ⟨7, A, B, C, D⟩] w (LTo w (wrP ⟨7, A, B, C, D⟩)) := by
  have K := hide (lto_new (w := w) (x := (w.alloc (.cells #[.int .i64 7, .int .i64 A, .int .i64 B, .int .i64 C, .int .i64 D] 41))) (l := wrP ⟨7, A, B, C, D⟩) (G.alloc _ _) [A] (by rfl) (by simp))
  unfold agI
  go_enter Tryz.func35, Tryz.ntmps35
  go_wp2_with fail
  refine bodyPost_ret (by simp [results, Tryz.results35, go_sem]; try rfl) rfl ?_
  have := unhide K
  simpa [World.size_alloc] using this
set_option maxHeartbeats 1000000 in
theorem writes_8 (w : World) (A B C D : Int) : Calls Tryz.prog 35 #[agI ⟨8, A, B, C, D⟩] w (LTo w (wrP ⟨8, A, B, C, D⟩)) := by
  have K := hide (lto_new (w := w) (x := (w.alloc (.cells #[.int .i64 8, .int .i64 A, .int .i64 B, .int .i64 C, .int .i64 D] 41))) (l := wrP ⟨8, A, B, C, D⟩) (G.alloc _ _) [A] (by rfl) (by simp))
  unfold agI
  go_enter Tryz.func35, Tryz.ntmps35
  go_wp2_with fail
  refine bodyPost_ret (by simp [results, Tryz.results35, go_sem]; try rfl) rfl ?_
  have := unhide K
  simpa [World.size_alloc] using this
set_option maxHeartbeats 1000000 in
theorem writes_9 (w : World) (A B C D : Int) : Calls Tryz.prog 35 #[agI ⟨9, A, B, C, D⟩] w (LTo w (wrP ⟨9, A, B, C, D⟩)) := by
  have K := hide (lto_new (w := w) (x := (w.alloc (.cells #[.int .i64 9, .int .i64 A, .int .i64 B, .int .i64 C, .int .i64 D] 41))) (l := wrP ⟨9, A, B, C, D⟩) (G.alloc _ _) [A] (by rfl) (by simp))
  unfold agI
  go_enter Tryz.func35, Tryz.ntmps35
  go_wp2_with fail
  refine bodyPost_ret (by simp [results, Tryz.results35, go_sem]; try rfl) rfl ?_
  have := unhide K
  simpa [World.size_alloc] using this
set_option maxHeartbeats 1000000 in
theorem writes_10 (w : World) (A B C D : Int) : Calls Tryz.prog 35 #[agI ⟨10, A, B, C, D⟩] w (LTo w (wrP ⟨10, A, B, C, D⟩)) := by
  have K := hide (lto_new (w := w) (x := (w.alloc (.cells #[.int .i64 10, .int .i64 A, .int .i64 B, .int .i64 C, .int .i64 D] 41))) (l := wrP ⟨10, A, B, C, D⟩) (G.alloc _ _) [A] (by rfl) (by simp))
  unfold agI
  go_enter Tryz.func35, Tryz.ntmps35
  go_wp2_with fail
  refine bodyPost_ret (by simp [results, Tryz.results35, go_sem]; try rfl) rfl ?_
  have := unhide K
  simpa [World.size_alloc] using this
set_option maxHeartbeats 1000000 in
theorem writes_11 (w : World) (A B C D : Int) : Calls Tryz.prog 35 #[agI ⟨11, A, B, C, D⟩] w (LTo w (wrP ⟨11, A, B, C, D⟩)) := by
  have K := hide (lto_new (w := w) (x := (w.alloc (.cells #[.int .i64 11, .int .i64 A, .int .i64 B, .int .i64 C, .int .i64 D] 41))) (l := wrP ⟨11, A, B, C, D⟩) (G.alloc _ _) [A] (by rfl) (by simp))
  unfold agI
  go_enter Tryz.func35, Tryz.ntmps35
  go_wp2_with fail
  refine bodyPost_ret (by simp [results, Tryz.results35, go_sem]; try rfl) rfl ?_
  have := unhide K
  simpa [World.size_alloc] using this
set_option maxHeartbeats 1000000 in
theorem writes_12 (w : World) (A B C D : Int) : Calls Tryz.prog 35 #[agI ⟨12, A, B, C, D⟩] w (LTo w (wrP ⟨12, A, B, C, D⟩)) := by
  have K := hide (lto_new (w := w) (x := (w.alloc (.cells #[.int .i64 12, .int .i64 A, .int .i64 B, .int .i64 C, .int .i64 D] 41))) (l := wrP ⟨12, A, B, C, D⟩) (G.alloc _ _) [A] (by rfl) (by simp))
  unfold agI
  go_enter Tryz.func35, Tryz.ntmps35
  go_wp2_with fail
  refine bodyPost_ret (by simp [results, Tryz.results35, go_sem]; try rfl) rfl ?_
  have := unhide K
  simpa [World.size_alloc] using this
set_option maxHeartbeats 1000000 in
theorem writes_13 (w : World) (A B C D : Int) : Calls Tryz.prog 35 #[agI ⟨13, A, B, C, D⟩] w (LTo w (wrP ⟨13, A, B, C, D⟩)) := by
  have K := hide (lto_new (w := w) (x := (w.alloc (.cells #[.int .i64 13, .int .i64 A, .int .i64 B, .int .i64 C, .int .i64 D] 41))) (l := wrP ⟨13, A, B, C, D⟩) (G.alloc _ _) [A] (by rfl) (by simp))
  unfold agI
  go_enter Tryz.func35, Tryz.ntmps35
  go_wp2_with fail
  refine bodyPost_ret (by simp [results, Tryz.results35, go_sem]; try rfl) rfl ?_
  have := unhide K
  simpa [World.size_alloc] using this
set_option maxHeartbeats 1000000 in
theorem writes_14 (w : World) (A B C D : Int) : Calls Tryz.prog 35 #[agI ⟨14, A, B, C, D⟩] w (LTo w (wrP ⟨14, A, B, C, D⟩)) := by
  have K := hide (lto_new (w := w) (x := (w.alloc (.cells #[.int .i64 14, .int .i64 A, .int .i64 B, .int .i64 C, .int .i64 D] 41))) (l := wrP ⟨14, A, B, C, D⟩) (G.alloc _ _) [A] (by rfl) (by simp))
  unfold agI
  go_enter Tryz.func35, Tryz.ntmps35
  go_wp2_with fail
  refine bodyPost_ret (by simp [results, Tryz.results35, go_sem]; try rfl) rfl ?_
  have := unhide K
  simpa [World.size_alloc] using this
set_option maxHeartbeats 1000000 in
theorem writes_15 (w : World) (A B C D : Int) : Calls Tryz.prog 35 #[agI ⟨15, A, B, C, D⟩] w (LTo w (wrP ⟨15, A, B, C, D⟩)) := by
  have K := hide (lto_new (w := w) (x := (w.alloc (.cells #[.int .i64 15, .int .i64 A, .int .i64 B, .int .i64 C, .int .i64 D] 41))) (l := wrP ⟨15, A, B, C, D⟩) (G.alloc _ _) [A] (by rfl) (by simp))
  unfold agI
  go_enter Tryz.func35, Tryz.ntmps35
  go_wp2_with fail
  refine bodyPost_ret (by simp [results, Tryz.results35, go_sem]; try rfl) rfl ?_
  have := unhide K
  simpa [World.size_alloc] using this
set_option maxHeartbeats 1000000 in
theorem writes_16 (w : World) (A B C D : Int) : Calls Tryz.prog 35 #[agI ⟨16, A, B, C, D⟩] w (LTo w (wrP ⟨16, A, B, C, D⟩)) := by
  have K := hide (lto_new (w := w) (x := (w.alloc (.cells #[.int .i64 16, .int .i64 A, .int .i64 B, .int .i64 C, .int .i64 D] 41))) (l := wrP ⟨16, A, B, C, D⟩) (G.alloc _ _) [A] (by rfl) (by simp))
  unfold agI
  go_enter Tryz.func35, Tryz.ntmps35
  go_wp2_with fail
  refine bodyPost_ret (by simp [results, Tryz.results35, go_sem]; try rfl) rfl ?_
  have := unhide K
  simpa [World.size_alloc] using this
set_option maxHeartbeats 1000000 in
theorem writes_17 (w : World) (A B C D : Int) : Calls Tryz.prog 35 #[agI ⟨17, A, B, C, D⟩] w (LTo w (wrP ⟨17, A, B, C, D⟩)) := by
  have K := hide (lto_new (w := w) (x := (w.alloc (.cells #[.int .i64 17, .int .i64 A, .int .i64 B, .int .i64 C, .int .i64 D] 41))) (l := wrP ⟨17, A, B, C, D⟩) (G.alloc _ _) [A] (by rfl) (by simp))
  unfold agI
  go_enter Tryz.func35, Tryz.ntmps35
  go_wp2_with fail
  refine bodyPost_ret (by simp [results, Tryz.results35, go_sem]; try rfl) rfl ?_
  have := unhide K
  simpa [World.size_alloc] using this
set_option maxHeartbeats 1000000 in
theorem writes_25 (w : World) (A B C D : Int) : Calls Tryz.prog 35 #[agI ⟨25, A, B, C, D⟩] w (LTo w (wrP ⟨25, A, B, C, D⟩)) := by
  have K := hide (lto_new (w := w) (x := (w.alloc (.cells #[.int .i64 25, .int .i64 A, .int .i64 B, .int .i64 C, .int .i64 D] 41))) (l := wrP ⟨25, A, B, C, D⟩) (G.alloc _ _) [A] (by rfl) (by simp))
  unfold agI
  go_enter Tryz.func35, Tryz.ntmps35
  go_wp2_with fail
  refine bodyPost_ret (by simp [results, Tryz.results35, go_sem]; try rfl) rfl ?_
  have := unhide K
  simpa [World.size_alloc] using this
set_option maxHeartbeats 1000000 in
theorem writes_26 (w : World) (A B C D : Int) : Calls Tryz.prog 35 #[agI ⟨26, A, B, C, D⟩] w (LTo w (wrP ⟨26, A, B, C, D⟩)) := by
  have K := hide (lto_new (w := w) (x := (w.alloc (.cells #[.int .i64 26, .int .i64 A, .int .i64 B, .int .i64 C, .int .i64 D] 41))) (l := wrP ⟨26, A, B, C, D⟩) (G.alloc _ _) [A] (by rfl) (by simp))
  unfold agI
  go_enter Tryz.func35, Tryz.ntmps35
  go_wp2_with fail
  refine bodyPost_ret (by simp [results, Tryz.results35, go_sem]; try rfl) rfl ?_
  have := unhide K
  simpa [World.size_alloc] using this
set_option maxHeartbeats 1000000 in
theorem writes_27 (w : World) (A B C D : Int) : Calls Tryz.prog 35 #[agI ⟨27, A, B, C, D⟩] w (LTo w (wrP ⟨27, A, B, C, D⟩)) := by
  have K := hide (lto_new (w := w) (x := (w.alloc (.cells #[.int .i64 27, .int .i64 A, .int .i64 B, .int .i64 C, .int .i64 D] 41))) (l := wrP ⟨27, A, B, C, D⟩) (G.alloc _ _) [A] (by rfl) (by simp))
  unfold agI
  go_enter Tryz.func35, Tryz.ntmps35
  go_wp2_with fail
  refine bodyPost_ret (by simp [results, Tryz.results35, go_sem]; try rfl) rfl ?_
  have := unhide K
  simpa [World.size_alloc] using this
set_option maxHeartbeats 1000000 in
theorem writes_30 (w : World) (A B C D : Int) : Calls Tryz.prog 35 #[agI ⟨30, A, B, C, D⟩] w (LTo w (wrP ⟨30, A, B, C, D⟩)) := by
  have K := hide (lto_new (w := w) (x := (w.alloc (.cells #[.int .i64 30, .int .i64 A, .int .i64 B, .int .i64 C, .int .i64 D] 41))) (l := wrP ⟨30, A, B, C, D⟩) (G.alloc _ _) [A] (by rfl) (by simp))
  unfold agI
  go_enter Tryz.func35, Tryz.ntmps35
  go_wp2_with fail
  refine bodyPost_ret (by simp [results, Tryz.results35, go_sem]; try rfl) rfl ?_
  have := unhide K
  simpa [World.size_alloc] using this
set_option maxHeartbeats 1000000 in
theorem writes_33 (w : World) (A B C D : Int) : Calls Tryz.prog 35 #[agI ⟨33, A, B, C, D⟩] w (LTo w (wrP ⟨33, A, B, C, D⟩)) := by
  have K := hide (lto_new (w := w) (x := (w.alloc (.cells #[.int .i64 33, .int .i64 A, .int .i64 B, .int .i64 C, .int .i64 D] 41))) (l := wrP ⟨33, A, B, C, D⟩) (G.alloc _ _) [A] (by rfl) (by simp))
  unfold agI
  go_enter Tryz.func35, Tryz.ntmps35
  go_wp2_with fail
  refine bodyPost_ret (by simp [results, Tryz.results35, go_sem]; try rfl) rfl ?_
  have := unhide K
  simpa [World.size_alloc] using this
set_option maxHeartbeats 1000000 in
theorem writes_34 (w : World) (A B C D : Int) : Calls Tryz.prog 35 #[agI ⟨34, A, B, C, D⟩] w (LTo w (wrP ⟨34, A, B, C, D⟩)) := by
  have K := hide (lto_new (w := w) (x := (w.alloc (.cells #[.int .i64 34, .int .i64 A, .int .i64 B, .int .i64 C, .int .i64 D] 41))) (l := wrP ⟨34, A, B, C, D⟩) (G.alloc _ _) [A] (by rfl) (by simp))
  unfold agI
  go_enter Tryz.func35, Tryz.ntmps35
  go_wp2_with fail
  refine bodyPost_ret (by simp [results, Tryz.results35, go_sem]; try rfl) rfl ?_
  have := unhide K
  simpa [World.size_alloc] using this
set_option maxHeartbeats 1000000 in
theorem writes_36 (w : World) (A B C D : Int) : Calls Tryz.prog 35 #[agI ⟨36, A, B, C, D⟩] w (LTo w (wrP ⟨36, A, B, C, D⟩)) := by
  have K := hide (lto_new (w := w) (x := (w.alloc (.cells #[.int .i64 36, .int .i64 A, .int .i64 B, .int .i64 C, .int .i64 D] 41))) (l := wrP ⟨36, A, B, C, D⟩) (G.alloc _ _) [A] (by rfl) (by simp))
  unfold agI
  go_enter Tryz.func35, Tryz.ntmps35
  go_wp2_with fail
  refine bodyPost_ret (by simp [results, Tryz.results35, go_sem]; try rfl) rfl ?_
  have := unhide K
  simpa [World.size_alloc] using this
set_option maxHeartbeats 1000000 in
theorem writes_37 (w : World) (A B C D : Int) : Calls Tryz.prog 35 #[agI ⟨37, A, B, C, D⟩] w (LTo w (wrP ⟨37, A, B, C, D⟩)) := by
  have K := hide (lto_new (w := w) (x := (w.alloc (.cells #[.int .i64 37, .int .i64 A, .int .i64 B, .int .i64 C, .int .i64 D] 41))) (l := wrP ⟨37, A, B, C, D⟩) (G.alloc _ _) [A] (by rfl) (by simp))
  unfold agI
  go_enter Tryz.func35, Tryz.ntmps35
  go_wp2_with fail
  refine bodyPost_ret (by simp [results, Tryz.results35, go_sem]; try rfl) rfl ?_
  have := unhide K
  simpa [World.size_alloc] using this
set_option maxHeartbeats 1000000 in
theorem writes_20 (w : World) (A B C D : Int) : Calls Tryz.prog 35 #[agI ⟨20, A, B, C, D⟩] w (LTo w (wrP ⟨20, A, B, C, D⟩)) := by
  have CN := hide (fun x v (hv : IsL x v [A]) => named_any x v [A] hv (by simp))
  have OW : Hid (∀ y : World, IsL (y.alloc (.cells #[.int .i64 A] 3)) (.slice (some ⟨y.heap.size, 0, none⟩) 1 1) [A]) := hide (fun y => isl_new y [A] (by show 1 ≤ maxLen; decide))
  have FI : Hid (wrP ⟨20, A, B, C, D⟩ = [A].filter (fun s => s != -1)) := hide (by rfl)
  obtain ⟨W2, hW2⟩ : ∃ W2, W2 = (w.alloc (.cells #[.int .i64 20, .int .i64 A, .int .i64 B, .int .i64 C, .int .i64 D] 41)) := ⟨_, rfl⟩
  have gW : Hid (G w W2) := hide (by rw [hW2]; exact G.alloc _ _)
  have hc : W2.cell? ⟨w.heap.size, 1, none⟩ = some (.int .i64 A) := by rw [hW2]; simp [go_sem]
  have hd : W2.cell? ⟨w.heap.size, 3, none⟩ = some (.int .i64 C) := by rw [hW2]; simp [go_sem]
  unfold agI
  go_enter Tryz.func35, Tryz.ntmps35
  go_upto_region 31 with fail
  rw [← hW2]
  clear hW2
  go_wp2_with fail
  refine (unhide CN _ _ (unhide OW W2)).mono ?_
  rintro e x2 ⟨v2, rfl, hL, hg2⟩
  have K : Hid (LTo w (wrP ⟨20, A, B, C, D⟩) (.returned v2) x2) := hide (by rw [unhide FI]; exact ⟨v2, rfl, hL, ((unhide gW).more _).trans hg2⟩)
  clear hL hc hd
  go_wp2_with fail
  refine bodyPost_ret (by simp [results, Tryz.results35, go_sem]; try rfl) rfl ?_
  exact unhide K
set_option maxHeartbeats 1000000 in
theorem writes_21 (w : World) (A B C D : Int) : Calls Tryz.prog 35 #[agI ⟨21, A, B, C, D⟩] w (LTo w (wrP ⟨21, A, B, C, D⟩)) := by
  have CN := hide (fun x v (hv : IsL x v [A]) => named_any x v [A] hv (by simp))
  have OW : Hid (∀ y : World, IsL (y.alloc (.cells #[.int .i64 A] 3)) (.slice (some ⟨y.heap.size, 0, none⟩) 1 1) [A]) := hide (fun y => isl_new y [A] (by show 1 ≤ maxLen; decide))
  have FI : Hid (wrP ⟨21, A, B, C, D⟩ = [A].filter (fun s => s != -1)) := hide (by rfl)
  obtain ⟨W2, hW2⟩ : ∃ W2, W2 = (w.alloc (.cells #[.int .i64 21, .int .i64 A, .int .i64 B, .int .i64 C, .int .i64 D] 41)) := ⟨_, rfl⟩
  have gW : Hid (G w W2) := hide (by rw [hW2]; exact G.alloc _ _)
  have hc : W2.cell? ⟨w.heap.size, 1, none⟩ = some (.int .i64 A) := by rw [hW2]; simp [go_sem]
  have hd : W2.cell? ⟨w.heap.size, 3, none⟩ = some (.int .i64 C) := by rw [hW2]; simp [go_sem]
  unfold agI
  go_enter Tryz.func35, Tryz.ntmps35
  go_upto_region 31 with fail
  rw [← hW2]
  clear hW2
  go_wp2_with fail
  refine (unhide CN _ _ (unhide OW W2)).mono ?_
  rintro e x2 ⟨v2, rfl, hL, hg2⟩
  have K : Hid (LTo w (wrP ⟨21, A, B, C, D⟩) (.returned v2) x2) := hide (by rw [unhide FI]; exact ⟨v2, rfl, hL, ((unhide gW).more _).trans hg2⟩)
  clear hL hc hd
  go_wp2_with fail
  refine bodyPost_ret (by simp [results, Tryz.results35, go_sem]; try rfl) rfl ?_
  exact unhide K
set_option maxHeartbeats 1000000 in
theorem writes_39 (w : World) (A B C D : Int) : Calls Tryz.prog 35 #[agI ⟨39, A, B, C, D⟩] w (LTo w (wrP ⟨39, A, B, C, D⟩)) := by
  have CN := hide (fun x v (hv : IsL x v [A, C]) => named_any x v [A, C] hv (by simp))
  have OW : Hid (∀ y : World, IsL (y.alloc (.cells #[.int .i64 A, .int .i64 C] 3)) (.slice (some ⟨y.heap.size, 0, none⟩) 2 2) [A, C]) := hide (fun y => isl_new y [A, C] (by show 2 ≤ maxLen; decide))
  have FI : Hid (wrP ⟨39, A, B, C, D⟩ = [A, C].filter (fun s => s != -1)) := hide (by rfl)
  obtain ⟨W2, hW2⟩ : ∃ W2, W2 = (w.alloc (.cells #[.int .i64 39, .int .i64 A, .int .i64 B, .int .i64 C, .int .i64 D] 41)) := ⟨_, rfl⟩
  have gW : Hid (G w W2) := hide (by rw [hW2]; exact G.alloc _ _)
  have hc : W2.cell? ⟨w.heap.size, 1, none⟩ = some (.int .i64 A) := by rw [hW2]; simp [go_sem]
  have hd : W2.cell? ⟨w.heap.size, 3, none⟩ = some (.int .i64 C) := by rw [hW2]; simp [go_sem]
  unfold agI
  go_enter Tryz.func35, Tryz.ntmps35
  go_upto_region 33 with fail
  rw [← hW2]
  clear hW2
  go_wp2_with fail
  refine (unhide CN _ _ (unhide OW W2)).mono ?_
  rintro e x2 ⟨v2, rfl, hL, hg2⟩
  have K : Hid (LTo w (wrP ⟨39, A, B, C, D⟩) (.returned v2) x2) := hide (by rw [unhide FI]; exact ⟨v2, rfl, hL, ((unhide gW).more _).trans hg2⟩)
  clear hL hc hd
  go_wp2_with fail
  refine bodyPost_ret (by simp [results, Tryz.results35, go_sem]; try rfl) rfl ?_
  exact unhide K
def wrAll : List Int := [0, 1, 2, 3, 4, 5, 6, 7, 8, 9, 10, 11, 12, 13, 14, 15, 16, 17, 25, 26, 27, 30, 33, 34, 36, 37, 20, 21, 39]
set_option maxHeartbeats 4000000 in
theorem writes_none (w : World) (op A B C D : Int) (hop : op ∉ wrAll) : Calls Tryz.prog 35 #[agI ⟨op, A, B, C, D⟩] w (LTo w (wrP ⟨op, A, B, C, D⟩)) := by
  have hq : ∀ k ∈ wrAll, (op == k) = false := fun k hk => beq_eq_false_iff_ne.2 (fun e => hop (e ▸ hk))
  have FI : wrP ⟨op, A, B, C, D⟩ = [] := by
    have hn : ∀ k ∈ wrAll, op ≠ k := fun k hk e => hop (e ▸ hk)
    unfold wrP wrOps
    simp only [wrAll, List.forall_mem_cons] at hn
    simp [hn]
  have K : Hid (∀ x, G w x → LTo w (wrP ⟨op, A, B, C, D⟩) (.returned (.slice none 0 0)) x) := hide (fun x g => by rw [FI]; exact ⟨_, rfl, isl_nil x, g⟩)
  have q0 : (op == 0) = false := hq 0 (by decide)
  have q1 : (op == 1) = false := hq 1 (by decide)
  have q2 : (op == 2) = false := hq 2 (by decide)
  have q3 : (op == 3) = false := hq 3 (by decide)
  have q4 : (op == 4) = false := hq 4 (by decide)
  have q5 : (op == 5) = false := hq 5 (by decide)
  have q6 : (op == 6) = false := hq 6 (by decide)
  have q7 : (op == 7) = false := hq 7 (by decide)
  have q8 : (op == 8) = false := hq 8 (by decide)
  have q9 : (op == 9) = false := hq 9 (by decide)
  have q10 : (op == 10) = false := hq 10 (by decide)
  have q11 : (op == 11) = false := hq 11 (by decide)
  have q12 : (op == 12) = false := hq 12 (by decide)
  have q13 : (op == 13) = false := hq 13 (by decide)
  have q14 : (op == 14) = false := hq 14 (by decide)
  have q15 : (op == 15) = false := hq 15 (by decide)
  have q16 : (op == 16) = false := hq 16 (by decide)
  have q17 : (op == 17) = false := hq 17 (by decide)
  have q25 : (op == 25) = false := hq 25 (by decide)
  have q26 : (op == 26) = false := hq 26 (by decide)
  have q27 : (op == 27) = false := hq 27 (by decide)
  have q30 : (op == 30) = false := hq 30 (by decide)
  have q33 : (op == 33) = false := hq 33 (by decide)
  have q34 : (op == 34) = false := hq 34 (by decide)
  have q36 : (op == 36) = false := hq 36 (by decide)
  have q37 : (op == 37) = false := hq 37 (by decide)
  have q20 : (op == 20) = false := hq 20 (by decide)
  have q21 : (op == 21) = false := hq 21 (by decide)
  have q39 : (op == 39) = false := hq 39 (by decide)
  clear hq FI hop
  unfold agI
  go_enter Tryz.func35, Tryz.ntmps35
  go_wp2_with fail
  refine bodyPost_ret (by simp [results, Tryz.results35, go_sem]; try rfl) rfl ?_
  exact unhide K _ (G.alloc _ _)
theorem writes_any (w : World) (i : In) : Calls Tryz.prog 35 #[agI i] w (LTo w (wrP i)) := by
  obtain ⟨op, A, B, C, D⟩ := i
  by_cases hop : op ∈ wrAll
  · simp only [wrAll, List.mem_cons, List.not_mem_nil, or_false] at hop
    rcases hop with rfl | rfl | rfl | rfl | rfl | rfl | rfl | rfl | rfl | rfl | rfl | rfl | rfl | rfl | rfl | rfl | rfl | rfl | rfl | rfl | rfl | rfl | rfl | rfl | rfl | rfl | rfl | rfl | rfl
    · exact writes_0 w A B C D
    · exact writes_1 w A B C D
    · exact writes_2 w A B C D
    · exact writes_3 w A B C D
    · exact writes_4 w A B C D
    · exact writes_5 w A B C D
    · exact writes_6 w A B C D
    · exact writes_7 w A B C D
    · exact writes_8 w A B C D
    · exact writes_9 w A B C D
    · exact writes_10 w A B C D
    · exact writes_11 w A B C D
    · exact writes_12 w A B C D
    · exact writes_13 w A B C D
    · exact writes_14 w A B C D
    · exact writes_15 w A B C D
    · exact writes_16 w A B C D
    · exact writes_17 w A B C D
    · exact writes_25 w A B C D
    · exact writes_26 w A B C D
    · exact writes_27 w A B C D
    · exact writes_30 w A B C D
    · exact writes_33 w A B C D
    · exact writes_34 w A B C D
    · exact writes_36 w A B C D
    · exact writes_37 w A B C D
    · exact writes_20 w A B C D
    · exact writes_21 w A B C D
    · exact writes_39 w A B C D
  · exact writes_none w op A B C D hop
end Go.Proofs.YtnliooflpclcbaaGreatDoor
