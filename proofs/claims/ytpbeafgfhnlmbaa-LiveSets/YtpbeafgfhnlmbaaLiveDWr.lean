/- The document's own Writes. -/
import Derived.Test.YtpbeafgfhnlmbaaLiveReads1
namespace Go.Proofs.Ytpbeafgfhnlmbaa
set_option maxRecDepth 100000
open Go.RowKit Go.Maps Go.ChangeShapes Go.WideShapes Go.ChangeAt Go.Deep

set_option maxHeartbeats 1000000 in
theorem rwrites_0 (w : World) (A B C D : Int) : Calls Try.prog 18 #[agI ⟨0, A, B, C, D⟩] w (LTo w (wrP ⟨0, A, B, C, D⟩)) := by
  have K := hide (lto_new (w := w) (x := (w.alloc (.cells #[.int .i64 0, .int .i64 A, .int .i64 B, .int .i64 C, .int .i64 D] 54))) (l := wrP ⟨0, A, B, C, D⟩) (G.alloc _ _) [A] (by rfl) (by simp))
  unfold agI
  go_enter Try.func18, Try.ntmps18
  go_wp2_with fail
  refine bodyPost_ret (by simp [results, Try.results18, go_sem]; try rfl) rfl ?_
  have := unhide K
  simpa [World.size_alloc] using this
set_option maxHeartbeats 1000000 in
theorem rwrites_1 (w : World) (A B C D : Int) : Calls Try.prog 18 #[agI ⟨1, A, B, C, D⟩] w (LTo w (wrP ⟨1, A, B, C, D⟩)) := by
  have K := hide (lto_new (w := w) (x := (w.alloc (.cells #[.int .i64 1, .int .i64 A, .int .i64 B, .int .i64 C, .int .i64 D] 54))) (l := wrP ⟨1, A, B, C, D⟩) (G.alloc _ _) [A] (by rfl) (by simp))
  unfold agI
  go_enter Try.func18, Try.ntmps18
  go_wp2_with fail
  refine bodyPost_ret (by simp [results, Try.results18, go_sem]; try rfl) rfl ?_
  have := unhide K
  simpa [World.size_alloc] using this
set_option maxHeartbeats 1000000 in
theorem rwrites_2 (w : World) (A B C D : Int) : Calls Try.prog 18 #[agI ⟨2, A, B, C, D⟩] w (LTo w (wrP ⟨2, A, B, C, D⟩)) := by
  have K := hide (lto_new (w := w) (x := (w.alloc (.cells #[.int .i64 2, .int .i64 A, .int .i64 B, .int .i64 C, .int .i64 D] 54))) (l := wrP ⟨2, A, B, C, D⟩) (G.alloc _ _) [A] (by rfl) (by simp))
  unfold agI
  go_enter Try.func18, Try.ntmps18
  go_wp2_with fail
  refine bodyPost_ret (by simp [results, Try.results18, go_sem]; try rfl) rfl ?_
  have := unhide K
  simpa [World.size_alloc] using this
set_option maxHeartbeats 1000000 in
theorem rwrites_3 (w : World) (A B C D : Int) : Calls Try.prog 18 #[agI ⟨3, A, B, C, D⟩] w (LTo w (wrP ⟨3, A, B, C, D⟩)) := by
  have K := hide (lto_new (w := w) (x := (w.alloc (.cells #[.int .i64 3, .int .i64 A, .int .i64 B, .int .i64 C, .int .i64 D] 54))) (l := wrP ⟨3, A, B, C, D⟩) (G.alloc _ _) [A] (by rfl) (by simp))
  unfold agI
  go_enter Try.func18, Try.ntmps18
  go_wp2_with fail
  refine bodyPost_ret (by simp [results, Try.results18, go_sem]; try rfl) rfl ?_
  have := unhide K
  simpa [World.size_alloc] using this
set_option maxHeartbeats 1000000 in
theorem rwrites_4 (w : World) (A B C D : Int) : Calls Try.prog 18 #[agI ⟨4, A, B, C, D⟩] w (LTo w (wrP ⟨4, A, B, C, D⟩)) := by
  have K := hide (lto_new (w := w) (x := (w.alloc (.cells #[.int .i64 4, .int .i64 A, .int .i64 B, .int .i64 C, .int .i64 D] 54))) (l := wrP ⟨4, A, B, C, D⟩) (G.alloc _ _) [A] (by rfl) (by simp))
  unfold agI
  go_enter Try.func18, Try.ntmps18
  go_wp2_with fail
  refine bodyPost_ret (by simp [results, Try.results18, go_sem]; try rfl) rfl ?_
  have := unhide K
  simpa [World.size_alloc] using this
set_option maxHeartbeats 1000000 in
theorem rwrites_5 (w : World) (A B C D : Int) : Calls Try.prog 18 #[agI ⟨5, A, B, C, D⟩] w (LTo w (wrP ⟨5, A, B, C, D⟩)) := by
  have K := hide (lto_new (w := w) (x := (w.alloc (.cells #[.int .i64 5, .int .i64 A, .int .i64 B, .int .i64 C, .int .i64 D] 54))) (l := wrP ⟨5, A, B, C, D⟩) (G.alloc _ _) [A] (by rfl) (by simp))
  unfold agI
  go_enter Try.func18, Try.ntmps18
  go_wp2_with fail
  refine bodyPost_ret (by simp [results, Try.results18, go_sem]; try rfl) rfl ?_
  have := unhide K
  simpa [World.size_alloc] using this
set_option maxHeartbeats 1000000 in
theorem rwrites_6 (w : World) (A B C D : Int) : Calls Try.prog 18 #[agI ⟨6, A, B, C, D⟩] w (LTo w (wrP ⟨6, A, B, C, D⟩)) := by
  have K := hide (lto_new (w := w) (x := (w.alloc (.cells #[.int .i64 6, .int .i64 A, .int .i64 B, .int .i64 C, .int .i64 D] 54))) (l := wrP ⟨6, A, B, C, D⟩) (G.alloc _ _) [A] (by rfl) (by simp))
  unfold agI
  go_enter Try.func18, Try.ntmps18
  go_wp2_with fail
  refine bodyPost_ret (by simp [results, Try.results18, go_sem]; try rfl) rfl ?_
  have := unhide K
  simpa [World.size_alloc] using this
set_option maxHeartbeats 1000000 in
theorem rwrites_7 (w : World) (A B C D : Int) : Calls Try.prog 18 #[agI ⟨7, A, B, C, D⟩] w (LTo w (wrP ⟨7, A, B, C, D⟩)) := by
  have K := hide (lto_new (w := w) (x := (w.alloc (.cells #[.int .i64 7, .int .i64 A, .int .i64 B, .int .i64 C, .int .i64 D] 54))) (l := wrP ⟨7, A, B, C, D⟩) (G.alloc _ _) [A] (by rfl) (by simp))
  unfold agI
  go_enter Try.func18, Try.ntmps18
  go_wp2_with fail
  refine bodyPost_ret (by simp [results, Try.results18, go_sem]; try rfl) rfl ?_
  have := unhide K
  simpa [World.size_alloc] using this
set_option maxHeartbeats 1000000 in
theorem rwrites_8 (w : World) (A B C D : Int) : Calls Try.prog 18 #[agI ⟨8, A, B, C, D⟩] w (LTo w (wrP ⟨8, A, B, C, D⟩)) := by
  have K := hide (lto_new (w := w) (x := (w.alloc (.cells #[.int .i64 8, .int .i64 A, .int .i64 B, .int .i64 C, .int .i64 D] 54))) (l := wrP ⟨8, A, B, C, D⟩) (G.alloc _ _) [A] (by rfl) (by simp))
  unfold agI
  go_enter Try.func18, Try.ntmps18
  go_wp2_with fail
  refine bodyPost_ret (by simp [results, Try.results18, go_sem]; try rfl) rfl ?_
  have := unhide K
  simpa [World.size_alloc] using this
set_option maxHeartbeats 1000000 in
theorem rwrites_9 (w : World) (A B C D : Int) : Calls Try.prog 18 #[agI ⟨9, A, B, C, D⟩] w (LTo w (wrP ⟨9, A, B, C, D⟩)) := by
  have K := hide (lto_new (w := w) (x := (w.alloc (.cells #[.int .i64 9, .int .i64 A, .int .i64 B, .int .i64 C, .int .i64 D] 54))) (l := wrP ⟨9, A, B, C, D⟩) (G.alloc _ _) [A] (by rfl) (by simp))
  unfold agI
  go_enter Try.func18, Try.ntmps18
  go_wp2_with fail
  refine bodyPost_ret (by simp [results, Try.results18, go_sem]; try rfl) rfl ?_
  have := unhide K
  simpa [World.size_alloc] using this
set_option maxHeartbeats 1000000 in
theorem rwrites_10 (w : World) (A B C D : Int) : Calls Try.prog 18 #[agI ⟨10, A, B, C, D⟩] w (LTo w (wrP ⟨10, A, B, C, D⟩)) := by
  have K := hide (lto_new (w := w) (x := (w.alloc (.cells #[.int .i64 10, .int .i64 A, .int .i64 B, .int .i64 C, .int .i64 D] 54))) (l := wrP ⟨10, A, B, C, D⟩) (G.alloc _ _) [A] (by rfl) (by simp))
  unfold agI
  go_enter Try.func18, Try.ntmps18
  go_wp2_with fail
  refine bodyPost_ret (by simp [results, Try.results18, go_sem]; try rfl) rfl ?_
  have := unhide K
  simpa [World.size_alloc] using this
set_option maxHeartbeats 1000000 in
theorem rwrites_11 (w : World) (A B C D : Int) : Calls Try.prog 18 #[agI ⟨11, A, B, C, D⟩] w (LTo w (wrP ⟨11, A, B, C, D⟩)) := by
  have K := hide (lto_new (w := w) (x := (w.alloc (.cells #[.int .i64 11, .int .i64 A, .int .i64 B, .int .i64 C, .int .i64 D] 54))) (l := wrP ⟨11, A, B, C, D⟩) (G.alloc _ _) [A] (by rfl) (by simp))
  unfold agI
  go_enter Try.func18, Try.ntmps18
  go_wp2_with fail
  refine bodyPost_ret (by simp [results, Try.results18, go_sem]; try rfl) rfl ?_
  have := unhide K
  simpa [World.size_alloc] using this
set_option maxHeartbeats 1000000 in
theorem rwrites_12 (w : World) (A B C D : Int) : Calls Try.prog 18 #[agI ⟨12, A, B, C, D⟩] w (LTo w (wrP ⟨12, A, B, C, D⟩)) := by
  have K := hide (lto_new (w := w) (x := (w.alloc (.cells #[.int .i64 12, .int .i64 A, .int .i64 B, .int .i64 C, .int .i64 D] 54))) (l := wrP ⟨12, A, B, C, D⟩) (G.alloc _ _) [A] (by rfl) (by simp))
  unfold agI
  go_enter Try.func18, Try.ntmps18
  go_wp2_with fail
  refine bodyPost_ret (by simp [results, Try.results18, go_sem]; try rfl) rfl ?_
  have := unhide K
  simpa [World.size_alloc] using this
set_option maxHeartbeats 1000000 in
theorem rwrites_13 (w : World) (A B C D : Int) : Calls Try.prog 18 #[agI ⟨13, A, B, C, D⟩] w (LTo w (wrP ⟨13, A, B, C, D⟩)) := by
  have K := hide (lto_new (w := w) (x := (w.alloc (.cells #[.int .i64 13, .int .i64 A, .int .i64 B, .int .i64 C, .int .i64 D] 54))) (l := wrP ⟨13, A, B, C, D⟩) (G.alloc _ _) [A] (by rfl) (by simp))
  unfold agI
  go_enter Try.func18, Try.ntmps18
  go_wp2_with fail
  refine bodyPost_ret (by simp [results, Try.results18, go_sem]; try rfl) rfl ?_
  have := unhide K
  simpa [World.size_alloc] using this
set_option maxHeartbeats 1000000 in
theorem rwrites_14 (w : World) (A B C D : Int) : Calls Try.prog 18 #[agI ⟨14, A, B, C, D⟩] w (LTo w (wrP ⟨14, A, B, C, D⟩)) := by
  have K := hide (lto_new (w := w) (x := (w.alloc (.cells #[.int .i64 14, .int .i64 A, .int .i64 B, .int .i64 C, .int .i64 D] 54))) (l := wrP ⟨14, A, B, C, D⟩) (G.alloc _ _) [A] (by rfl) (by simp))
  unfold agI
  go_enter Try.func18, Try.ntmps18
  go_wp2_with fail
  refine bodyPost_ret (by simp [results, Try.results18, go_sem]; try rfl) rfl ?_
  have := unhide K
  simpa [World.size_alloc] using this
set_option maxHeartbeats 1000000 in
theorem rwrites_15 (w : World) (A B C D : Int) : Calls Try.prog 18 #[agI ⟨15, A, B, C, D⟩] w (LTo w (wrP ⟨15, A, B, C, D⟩)) := by
  have K := hide (lto_new (w := w) (x := (w.alloc (.cells #[.int .i64 15, .int .i64 A, .int .i64 B, .int .i64 C, .int .i64 D] 54))) (l := wrP ⟨15, A, B, C, D⟩) (G.alloc _ _) [A] (by rfl) (by simp))
  unfold agI
  go_enter Try.func18, Try.ntmps18
  go_wp2_with fail
  refine bodyPost_ret (by simp [results, Try.results18, go_sem]; try rfl) rfl ?_
  have := unhide K
  simpa [World.size_alloc] using this
set_option maxHeartbeats 1000000 in
theorem rwrites_16 (w : World) (A B C D : Int) : Calls Try.prog 18 #[agI ⟨16, A, B, C, D⟩] w (LTo w (wrP ⟨16, A, B, C, D⟩)) := by
  have K := hide (lto_new (w := w) (x := (w.alloc (.cells #[.int .i64 16, .int .i64 A, .int .i64 B, .int .i64 C, .int .i64 D] 54))) (l := wrP ⟨16, A, B, C, D⟩) (G.alloc _ _) [A] (by rfl) (by simp))
  unfold agI
  go_enter Try.func18, Try.ntmps18
  go_wp2_with fail
  refine bodyPost_ret (by simp [results, Try.results18, go_sem]; try rfl) rfl ?_
  have := unhide K
  simpa [World.size_alloc] using this
set_option maxHeartbeats 1000000 in
theorem rwrites_17 (w : World) (A B C D : Int) : Calls Try.prog 18 #[agI ⟨17, A, B, C, D⟩] w (LTo w (wrP ⟨17, A, B, C, D⟩)) := by
  have K := hide (lto_new (w := w) (x := (w.alloc (.cells #[.int .i64 17, .int .i64 A, .int .i64 B, .int .i64 C, .int .i64 D] 54))) (l := wrP ⟨17, A, B, C, D⟩) (G.alloc _ _) [A] (by rfl) (by simp))
  unfold agI
  go_enter Try.func18, Try.ntmps18
  go_wp2_with fail
  refine bodyPost_ret (by simp [results, Try.results18, go_sem]; try rfl) rfl ?_
  have := unhide K
  simpa [World.size_alloc] using this
set_option maxHeartbeats 1000000 in
theorem rwrites_25 (w : World) (A B C D : Int) : Calls Try.prog 18 #[agI ⟨25, A, B, C, D⟩] w (LTo w (wrP ⟨25, A, B, C, D⟩)) := by
  have K := hide (lto_new (w := w) (x := (w.alloc (.cells #[.int .i64 25, .int .i64 A, .int .i64 B, .int .i64 C, .int .i64 D] 54))) (l := wrP ⟨25, A, B, C, D⟩) (G.alloc _ _) [A] (by rfl) (by simp))
  unfold agI
  go_enter Try.func18, Try.ntmps18
  go_wp2_with fail
  refine bodyPost_ret (by simp [results, Try.results18, go_sem]; try rfl) rfl ?_
  have := unhide K
  simpa [World.size_alloc] using this
set_option maxHeartbeats 1000000 in
theorem rwrites_26 (w : World) (A B C D : Int) : Calls Try.prog 18 #[agI ⟨26, A, B, C, D⟩] w (LTo w (wrP ⟨26, A, B, C, D⟩)) := by
  have K := hide (lto_new (w := w) (x := (w.alloc (.cells #[.int .i64 26, .int .i64 A, .int .i64 B, .int .i64 C, .int .i64 D] 54))) (l := wrP ⟨26, A, B, C, D⟩) (G.alloc _ _) [A] (by rfl) (by simp))
  unfold agI
  go_enter Try.func18, Try.ntmps18
  go_wp2_with fail
  refine bodyPost_ret (by simp [results, Try.results18, go_sem]; try rfl) rfl ?_
  have := unhide K
  simpa [World.size_alloc] using this
set_option maxHeartbeats 1000000 in
theorem rwrites_27 (w : World) (A B C D : Int) : Calls Try.prog 18 #[agI ⟨27, A, B, C, D⟩] w (LTo w (wrP ⟨27, A, B, C, D⟩)) := by
  have K := hide (lto_new (w := w) (x := (w.alloc (.cells #[.int .i64 27, .int .i64 A, .int .i64 B, .int .i64 C, .int .i64 D] 54))) (l := wrP ⟨27, A, B, C, D⟩) (G.alloc _ _) [A] (by rfl) (by simp))
  unfold agI
  go_enter Try.func18, Try.ntmps18
  go_wp2_with fail
  refine bodyPost_ret (by simp [results, Try.results18, go_sem]; try rfl) rfl ?_
  have := unhide K
  simpa [World.size_alloc] using this
set_option maxHeartbeats 1000000 in
theorem rwrites_30 (w : World) (A B C D : Int) : Calls Try.prog 18 #[agI ⟨30, A, B, C, D⟩] w (LTo w (wrP ⟨30, A, B, C, D⟩)) := by
  have K := hide (lto_new (w := w) (x := (w.alloc (.cells #[.int .i64 30, .int .i64 A, .int .i64 B, .int .i64 C, .int .i64 D] 54))) (l := wrP ⟨30, A, B, C, D⟩) (G.alloc _ _) [A] (by rfl) (by simp))
  unfold agI
  go_enter Try.func18, Try.ntmps18
  go_wp2_with fail
  refine bodyPost_ret (by simp [results, Try.results18, go_sem]; try rfl) rfl ?_
  have := unhide K
  simpa [World.size_alloc] using this
set_option maxHeartbeats 1000000 in
theorem rwrites_33 (w : World) (A B C D : Int) : Calls Try.prog 18 #[agI ⟨33, A, B, C, D⟩] w (LTo w (wrP ⟨33, A, B, C, D⟩)) := by
  have K := hide (lto_new (w := w) (x := (w.alloc (.cells #[.int .i64 33, .int .i64 A, .int .i64 B, .int .i64 C, .int .i64 D] 54))) (l := wrP ⟨33, A, B, C, D⟩) (G.alloc _ _) [A] (by rfl) (by simp))
  unfold agI
  go_enter Try.func18, Try.ntmps18
  go_wp2_with fail
  refine bodyPost_ret (by simp [results, Try.results18, go_sem]; try rfl) rfl ?_
  have := unhide K
  simpa [World.size_alloc] using this
set_option maxHeartbeats 1000000 in
theorem rwrites_34 (w : World) (A B C D : Int) : Calls Try.prog 18 #[agI ⟨34, A, B, C, D⟩] w (LTo w (wrP ⟨34, A, B, C, D⟩)) := by
  have K := hide (lto_new (w := w) (x := (w.alloc (.cells #[.int .i64 34, .int .i64 A, .int .i64 B, .int .i64 C, .int .i64 D] 54))) (l := wrP ⟨34, A, B, C, D⟩) (G.alloc _ _) [A] (by rfl) (by simp))
  unfold agI
  go_enter Try.func18, Try.ntmps18
  go_wp2_with fail
  refine bodyPost_ret (by simp [results, Try.results18, go_sem]; try rfl) rfl ?_
  have := unhide K
  simpa [World.size_alloc] using this
set_option maxHeartbeats 1000000 in
theorem rwrites_36 (w : World) (A B C D : Int) : Calls Try.prog 18 #[agI ⟨36, A, B, C, D⟩] w (LTo w (wrP ⟨36, A, B, C, D⟩)) := by
  have K := hide (lto_new (w := w) (x := (w.alloc (.cells #[.int .i64 36, .int .i64 A, .int .i64 B, .int .i64 C, .int .i64 D] 54))) (l := wrP ⟨36, A, B, C, D⟩) (G.alloc _ _) [A] (by rfl) (by simp))
  unfold agI
  go_enter Try.func18, Try.ntmps18
  go_wp2_with fail
  refine bodyPost_ret (by simp [results, Try.results18, go_sem]; try rfl) rfl ?_
  have := unhide K
  simpa [World.size_alloc] using this
set_option maxHeartbeats 1000000 in
theorem rwrites_37 (w : World) (A B C D : Int) : Calls Try.prog 18 #[agI ⟨37, A, B, C, D⟩] w (LTo w (wrP ⟨37, A, B, C, D⟩)) := by
  have K := hide (lto_new (w := w) (x := (w.alloc (.cells #[.int .i64 37, .int .i64 A, .int .i64 B, .int .i64 C, .int .i64 D] 54))) (l := wrP ⟨37, A, B, C, D⟩) (G.alloc _ _) [A] (by rfl) (by simp))
  unfold agI
  go_enter Try.func18, Try.ntmps18
  go_wp2_with fail
  refine bodyPost_ret (by simp [results, Try.results18, go_sem]; try rfl) rfl ?_
  have := unhide K
  simpa [World.size_alloc] using this
set_option maxHeartbeats 1000000 in
theorem rwrites_20 (w : World) (A B C D : Int) : Calls Try.prog 18 #[agI ⟨20, A, B, C, D⟩] w (LTo w (wrP ⟨20, A, B, C, D⟩)) := by
  cases hA : (A != -1)
  · have FI : wrP ⟨20, A, B, C, D⟩ = [] := by show [A].filter (fun s => s != -1) = []; simp [hA]
    have K : Hid (∀ x, G w x → LTo w (wrP ⟨20, A, B, C, D⟩) (.returned (.slice none 0 0)) x) := hide (fun x g => by rw [FI]; exact ⟨_, rfl, isl_nil x, g⟩)
    clear FI
    unfold agI
    go_enter Try.func18, Try.ntmps18
    go_wp2_with fail
    refine bodyPost_ret (by simp [results, Try.results18, go_sem]; try rfl) rfl ?_
    exact unhide K _ (G.alloc _ _)
  · have FI : wrP ⟨20, A, B, C, D⟩ = [A] := by show [A].filter (fun s => s != -1) = [A]; simp [hA]
    have K := hide (lto_new (w := w) (x := (w.alloc (.cells #[.int .i64 20, .int .i64 A, .int .i64 B, .int .i64 C, .int .i64 D] 54))) (l := wrP ⟨20, A, B, C, D⟩) (G.alloc _ _) [A] FI (by simp))
    clear FI
    unfold agI
    go_enter Try.func18, Try.ntmps18
    go_wp2_with fail
    refine bodyPost_ret (by simp [results, Try.results18, go_sem]; try rfl) rfl ?_
    have := unhide K
    simpa [World.size_alloc] using this
set_option maxHeartbeats 1000000 in
theorem rwrites_21 (w : World) (A B C D : Int) : Calls Try.prog 18 #[agI ⟨21, A, B, C, D⟩] w (LTo w (wrP ⟨21, A, B, C, D⟩)) := by
  cases hA : (A != -1)
  · have FI : wrP ⟨21, A, B, C, D⟩ = [] := by show [A].filter (fun s => s != -1) = []; simp [hA]
    have K : Hid (∀ x, G w x → LTo w (wrP ⟨21, A, B, C, D⟩) (.returned (.slice none 0 0)) x) := hide (fun x g => by rw [FI]; exact ⟨_, rfl, isl_nil x, g⟩)
    clear FI
    unfold agI
    go_enter Try.func18, Try.ntmps18
    go_wp2_with fail
    refine bodyPost_ret (by simp [results, Try.results18, go_sem]; try rfl) rfl ?_
    exact unhide K _ (G.alloc _ _)
  · have FI : wrP ⟨21, A, B, C, D⟩ = [A] := by show [A].filter (fun s => s != -1) = [A]; simp [hA]
    have K := hide (lto_new (w := w) (x := (w.alloc (.cells #[.int .i64 21, .int .i64 A, .int .i64 B, .int .i64 C, .int .i64 D] 54))) (l := wrP ⟨21, A, B, C, D⟩) (G.alloc _ _) [A] FI (by simp))
    clear FI
    unfold agI
    go_enter Try.func18, Try.ntmps18
    go_wp2_with fail
    refine bodyPost_ret (by simp [results, Try.results18, go_sem]; try rfl) rfl ?_
    have := unhide K
    simpa [World.size_alloc] using this
set_option maxHeartbeats 4000000 in
theorem rwrites_lo (w : World) (op A B C D : Int) (hs : op < 0) (hop : ∀ k ∈ ([25, 26, 27, 30, 33, 34, 36, 37, 20, 21, 39] : List Int), op ≠ k) : Calls Try.prog 18 #[agI ⟨op, A, B, C, D⟩] w (LTo w (wrP ⟨op, A, B, C, D⟩)) := by
  have FI : wrP ⟨op, A, B, C, D⟩ = [] := by
    have hm : ∀ k : Int, 0 ≤ k → k ≤ 17 → op ≠ k := fun k _ _ => by omega
    have h18 : ∀ k ∈ ([0, 1, 2, 3, 4, 5, 6, 7, 8, 9, 10, 11, 12, 13, 14, 15, 16, 17] : List Int), op ≠ k := fun k hk => hm k (by revert k; decide) (by revert k; decide)
    unfold wrP wrOps
    simp only [List.forall_mem_cons] at hop h18
    simp [hop, h18]
  have K : Hid (∀ x, G w x → LTo w (wrP ⟨op, A, B, C, D⟩) (.returned (.slice none 0 0)) x) := hide (fun x g => by rw [FI]; exact ⟨_, rfl, isl_nil x, g⟩)
  have q25 : (op == 25) = false := beq_eq_false_iff_ne.2 (hop 25 (by decide))
  have q26 : (op == 26) = false := beq_eq_false_iff_ne.2 (hop 26 (by decide))
  have q27 : (op == 27) = false := beq_eq_false_iff_ne.2 (hop 27 (by decide))
  have q30 : (op == 30) = false := beq_eq_false_iff_ne.2 (hop 30 (by decide))
  have q33 : (op == 33) = false := beq_eq_false_iff_ne.2 (hop 33 (by decide))
  have q34 : (op == 34) = false := beq_eq_false_iff_ne.2 (hop 34 (by decide))
  have q36 : (op == 36) = false := beq_eq_false_iff_ne.2 (hop 36 (by decide))
  have q37 : (op == 37) = false := beq_eq_false_iff_ne.2 (hop 37 (by decide))
  have q20 : (op == 20) = false := beq_eq_false_iff_ne.2 (hop 20 (by decide))
  have q21 : (op == 21) = false := beq_eq_false_iff_ne.2 (hop 21 (by decide))
  have q39 : (op == 39) = false := beq_eq_false_iff_ne.2 (hop 39 (by decide))
  have s1 : op ≤ 17 := by omega
  have s2 : ¬ 0 ≤ op := by omega
  clear hop FI hs
  unfold agI
  go_enter Try.func18, Try.ntmps18
  go_wp2_with fail
  refine bodyPost_ret (by simp [results, Try.results18, go_sem]; try rfl) rfl ?_
  exact unhide K _ (G.alloc _ _)
set_option maxHeartbeats 4000000 in
theorem rwrites_hi (w : World) (op A B C D : Int) (hs : 17 < op) (hop : ∀ k ∈ ([25, 26, 27, 30, 33, 34, 36, 37, 20, 21, 39] : List Int), op ≠ k) : Calls Try.prog 18 #[agI ⟨op, A, B, C, D⟩] w (LTo w (wrP ⟨op, A, B, C, D⟩)) := by
  have FI : wrP ⟨op, A, B, C, D⟩ = [] := by
    have hm : ∀ k : Int, 0 ≤ k → k ≤ 17 → op ≠ k := fun k _ _ => by omega
    have h18 : ∀ k ∈ ([0, 1, 2, 3, 4, 5, 6, 7, 8, 9, 10, 11, 12, 13, 14, 15, 16, 17] : List Int), op ≠ k := fun k hk => hm k (by revert k; decide) (by revert k; decide)
    unfold wrP wrOps
    simp only [List.forall_mem_cons] at hop h18
    simp [hop, h18]
  have K : Hid (∀ x, G w x → LTo w (wrP ⟨op, A, B, C, D⟩) (.returned (.slice none 0 0)) x) := hide (fun x g => by rw [FI]; exact ⟨_, rfl, isl_nil x, g⟩)
  have q25 : (op == 25) = false := beq_eq_false_iff_ne.2 (hop 25 (by decide))
  have q26 : (op == 26) = false := beq_eq_false_iff_ne.2 (hop 26 (by decide))
  have q27 : (op == 27) = false := beq_eq_false_iff_ne.2 (hop 27 (by decide))
  have q30 : (op == 30) = false := beq_eq_false_iff_ne.2 (hop 30 (by decide))
  have q33 : (op == 33) = false := beq_eq_false_iff_ne.2 (hop 33 (by decide))
  have q34 : (op == 34) = false := beq_eq_false_iff_ne.2 (hop 34 (by decide))
  have q36 : (op == 36) = false := beq_eq_false_iff_ne.2 (hop 36 (by decide))
  have q37 : (op == 37) = false := beq_eq_false_iff_ne.2 (hop 37 (by decide))
  have q20 : (op == 20) = false := beq_eq_false_iff_ne.2 (hop 20 (by decide))
  have q21 : (op == 21) = false := beq_eq_false_iff_ne.2 (hop 21 (by decide))
  have q39 : (op == 39) = false := beq_eq_false_iff_ne.2 (hop 39 (by decide))
  have s1 : ¬ op ≤ 17 := by omega
  clear hop FI hs
  unfold agI
  go_enter Try.func18, Try.ntmps18
  go_wp2_with fail
  refine bodyPost_ret (by simp [results, Try.results18, go_sem]; try rfl) rfl ?_
  exact unhide K _ (G.alloc _ _)
set_option maxHeartbeats 1000000 in
theorem rwrites_39 (w : World) (A B C D : Int) : Calls Try.prog 18 #[agI ⟨39, A, B, C, D⟩] w (LTo w (wrP ⟨39, A, B, C, D⟩)) := by
  obtain ⟨W2, hW2⟩ : ∃ W2, W2 = (w.alloc (.cells #[.int .i64 39, .int .i64 A, .int .i64 B, .int .i64 C, .int .i64 D] 54)) := ⟨_, rfl⟩
  have gW : Hid (G w W2) := hide (by rw [hW2]; exact G.alloc _ _)
  have AP : Hid (∀ (y : World) (v : Value) (l : List Int) (a : Int), OwnL y W2.heap.size v l → l.length ≤ 2 → G W2 y → ∃ v' y', (Builtin.append_ #[32, 32] 32 #[v, .slice (some ⟨y.heap.size, 0, none⟩) 1 1]).run Try.prog (y.alloc (.cells #[.int .i64 a] 3)) = .ok v' y' ∧ OwnL y' W2.heap.size v' (l ++ [a]) ∧ G W2 y') := hide (fun y v l a h1 hl g => by
    obtain ⟨v', w', r1, r2, r3⟩ := own_app1 a h1 g.size (by omega)
    exact ⟨v', w', r1, r2, ⟨r3.os.trans g.os, r3.tape.trans g.tape, r3.output.trans g.output, Nat.le_trans g.size r3.size, fun b hb => (r3.block b hb).trans (g.block b hb)⟩⟩)
  have AC : Hid (∀ x, G W2 x → x.cell? ⟨w.heap.size, 1, none⟩ = some (.int .i64 A) ∧ x.cell? ⟨w.heap.size, 3, none⟩ = some (.int .i64 C)) := hide (fun x g => ⟨g.cell (by rw [hW2]; simp [go_sem]), g.cell (by rw [hW2]; simp [go_sem])⟩)
  have FIN : Hid (∀ x v l, OwnL x W2.heap.size v l → G W2 x → wrP ⟨39, A, B, C, D⟩ = l → LTo w (wrP ⟨39, A, B, C, D⟩) (.returned v) x) := hide (fun x v l h g e => ⟨v, rfl, by rw [e]; exact h.isl, (unhide gW).trans g⟩)
  have c0 : W2.cell? ⟨w.heap.size, 0, none⟩ = some (.int .i64 39) := by rw [hW2]; simp [go_sem]
  obtain ⟨c1, c3⟩ := unhide AC W2 (G.refl _)
  have hE : wrP ⟨39, A, B, C, D⟩ = [A, C].filter (fun s => s != -1) := rfl
  unfold agI
  go_enter Try.func18, Try.ntmps18
  go_upto_region 1 with fail
  rw [← hW2]
  clear hW2
  cases hA : (A != -1) <;> cases hC : (C != -1)
  · have e : wrP ⟨39, A, B, C, D⟩ = [] := by rw [hE]; simp [hA, hC]
    have K := hide (unhide FIN W2 (.slice none 0 0) [] (ownl_nil _ _) (G.refl _) e)
    clear FIN AP AC hE e
    go_wp2_with fail
    refine bodyPost_ret (by simp [results, Try.results18, go_sem]; try rfl) rfl ?_
    exact unhide K
  · have e : wrP ⟨39, A, B, C, D⟩ = [C] := by rw [hE]; simp [hA, hC]
    obtain ⟨v1, y1, hr1, hO1, g1⟩ := unhide AP W2 (.slice none 0 0) [] C (ownl_nil _ _) (by simp) (G.refl _)
    have K := hide (unhide FIN y1 v1 [C] hO1 g1 e)
    replace hr1 := hide hr1
    clear FIN AP AC hE e hO1 g1
    go_wp2_with (at_builtin; refine wpl_run rfl (.tmp 60) (.tmp 63) 32 rfl _ _ rfl rfl _ _ (unhide hr1) ?_)
    refine bodyPost_ret (by simp [results, Try.results18, go_sem]; try rfl) rfl ?_
    exact unhide K
  · have e : wrP ⟨39, A, B, C, D⟩ = [A] := by rw [hE]; simp [hA, hC]
    obtain ⟨v1, y1, hr1, hO1, g1⟩ := unhide AP W2 (.slice none 0 0) [] A (ownl_nil _ _) (by simp) (G.refl _)
    obtain ⟨d1, d3⟩ := unhide AC y1 g1
    have K := hide (unhide FIN y1 v1 [A] hO1 g1 e)
    replace hr1 := hide hr1
    clear FIN AP AC hE e hO1 g1
    go_wp2_with (at_builtin; refine wpl_run rfl (.tmp 52) (.tmp 55) 32 rfl _ _ rfl rfl _ _ (unhide hr1) ?_)
    refine bodyPost_ret (by simp [results, Try.results18, go_sem]; try rfl) rfl ?_
    exact unhide K
  · have e : wrP ⟨39, A, B, C, D⟩ = [A, C] := by rw [hE]; simp [hA, hC]
    obtain ⟨v1, y1, hr1, hO1, g1⟩ := unhide AP W2 (.slice none 0 0) [] A (ownl_nil _ _) (by simp) (G.refl _)
    obtain ⟨d1, d3⟩ := unhide AC y1 g1
    obtain ⟨v2, y2, hr2, hO2, g2⟩ := unhide AP y1 v1 [A] C hO1 (by simp) g1
    have K := hide (unhide FIN y2 v2 [A, C] hO2 g2 e)
    replace hr1 := hide hr1
    replace hr2 := hide hr2
    clear FIN AP AC hE e hO1 hO2 g1 g2
    go_wp2_with (at_builtin; first | refine wpl_run rfl (.tmp 52) (.tmp 55) 32 rfl _ _ rfl rfl _ _ (unhide hr1) ?_ | refine wpl_run rfl (.tmp 60) (.tmp 63) 32 rfl _ _ rfl rfl _ _ (unhide hr2) ?_)
    refine bodyPost_ret (by simp [results, Try.results18, go_sem]; try rfl) rfl ?_
    exact unhide K
theorem rwrites_any (w : World) (i : In) : Calls Try.prog 18 #[agI i] w (LTo w (wrP i)) := by
  obtain ⟨op, A, B, C, D⟩ := i
  by_cases hop : op ∈ ([0, 1, 2, 3, 4, 5, 6, 7, 8, 9, 10, 11, 12, 13, 14, 15, 16, 17, 25, 26, 27, 30, 33, 34, 36, 37, 20, 21, 39] : List Int)
  · simp only [List.mem_cons, List.not_mem_nil, or_false] at hop
    rcases hop with rfl | rfl | rfl | rfl | rfl | rfl | rfl | rfl | rfl | rfl | rfl | rfl | rfl | rfl | rfl | rfl | rfl | rfl | rfl | rfl | rfl | rfl | rfl | rfl | rfl | rfl | rfl | rfl | rfl
    · exact rwrites_0 w A B C D
    · exact rwrites_1 w A B C D
    · exact rwrites_2 w A B C D
    · exact rwrites_3 w A B C D
    · exact rwrites_4 w A B C D
    · exact rwrites_5 w A B C D
    · exact rwrites_6 w A B C D
    · exact rwrites_7 w A B C D
    · exact rwrites_8 w A B C D
    · exact rwrites_9 w A B C D
    · exact rwrites_10 w A B C D
    · exact rwrites_11 w A B C D
    · exact rwrites_12 w A B C D
    · exact rwrites_13 w A B C D
    · exact rwrites_14 w A B C D
    · exact rwrites_15 w A B C D
    · exact rwrites_16 w A B C D
    · exact rwrites_17 w A B C D
    · exact rwrites_25 w A B C D
    · exact rwrites_26 w A B C D
    · exact rwrites_27 w A B C D
    · exact rwrites_30 w A B C D
    · exact rwrites_33 w A B C D
    · exact rwrites_34 w A B C D
    · exact rwrites_36 w A B C D
    · exact rwrites_37 w A B C D
    · exact rwrites_20 w A B C D
    · exact rwrites_21 w A B C D
    · exact rwrites_39 w A B C D
  · have hr : ∀ k ∈ ([25, 26, 27, 30, 33, 34, 36, 37, 20, 21, 39] : List Int), op ≠ k := fun k hk e => hop (by subst e; simp only [List.mem_cons, List.not_mem_nil, or_false] at hk ⊢; omega)
    by_cases h0 : op < 0
    · exact rwrites_lo w op A B C D h0 hr
    · refine rwrites_hi w op A B C D ?_ hr
      simp only [List.mem_cons, List.not_mem_nil, or_false] at hop
      omega
end Go.Proofs.Ytpbeafgfhnlmbaa
