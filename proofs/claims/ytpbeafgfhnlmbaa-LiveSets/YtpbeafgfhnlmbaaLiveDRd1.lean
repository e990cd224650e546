/- The document's own Reads: plain rows. -/
import Derived.Test.YtpbeafgfhnlmbaaLiveReads1
namespace Go.Proofs.Ytpbeafgfhnlmbaa
set_option maxRecDepth 100000
open Go.RowKit Go.Maps Go.ChangeShapes Go.WideShapes Go.ChangeAt Go.Deep

set_option maxHeartbeats 1000000 in
theorem rreads_1 (w : World) (m : Md) (so : Option Addr) (sc : Nat) (go : Option Addr) (gc : Nat) (co : Option Addr) (cc : Nat) (ao : Option Addr) (ac : Nat) (fo : Option Addr) (fc : Nat) (A B C D : Int) : Calls Try.prog 17 #[agM m so sc go gc co cc ao ac fo fc, agI ⟨1, A, B, C, D⟩] w (LTo w (rdP m ⟨1, A, B, C, D⟩)) := by
  have K := hide (lto_new (w := w) (x := ((w.alloc (.cells #[.slice so m.sh.length sc, .slice go m.gl.length gc, .slice co m.co.length cc, .slice ao m.ca.length ac, .slice fo m.fn.length fc, .int .i64 m.main] 48)).alloc (.cells #[.int .i64 1, .int .i64 A, .int .i64 B, .int .i64 C, .int .i64 D] 54))) (l := rdP m ⟨1, A, B, C, D⟩) ((G.alloc _ _).more _) [B] (by rfl) (by simp))
  unfold agM agI
  go_enter Try.func17, Try.ntmps17
  go_wp2_with fail
  refine bodyPost_ret (by simp [results, Try.results17, go_sem]; try rfl) rfl ?_
  have := unhide K
  simpa [World.size_alloc] using this
set_option maxHeartbeats 1000000 in
theorem rreads_17 (w : World) (m : Md) (so : Option Addr) (sc : Nat) (go : Option Addr) (gc : Nat) (co : Option Addr) (cc : Nat) (ao : Option Addr) (ac : Nat) (fo : Option Addr) (fc : Nat) (A B C D : Int) : Calls Try.prog 17 #[agM m so sc go gc co cc ao ac fo fc, agI ⟨17, A, B, C, D⟩] w (LTo w (rdP m ⟨17, A, B, C, D⟩)) := by
  have K := hide (lto_new (w := w) (x := ((w.alloc (.cells #[.slice so m.sh.length sc, .slice go m.gl.length gc, .slice co m.co.length cc, .slice ao m.ca.length ac, .slice fo m.fn.length fc, .int .i64 m.main] 48)).alloc (.cells #[.int .i64 17, .int .i64 A, .int .i64 B, .int .i64 C, .int .i64 D] 54))) (l := rdP m ⟨17, A, B, C, D⟩) ((G.alloc _ _).more _) [B] (by rfl) (by simp))
  unfold agM agI
  go_enter Try.func17, Try.ntmps17
  go_wp2_with fail
  refine bodyPost_ret (by simp [results, Try.results17, go_sem]; try rfl) rfl ?_
  have := unhide K
  simpa [World.size_alloc] using this
set_option maxHeartbeats 1000000 in
theorem rreads_27 (w : World) (m : Md) (so : Option Addr) (sc : Nat) (go : Option Addr) (gc : Nat) (co : Option Addr) (cc : Nat) (ao : Option Addr) (ac : Nat) (fo : Option Addr) (fc : Nat) (A B C D : Int) : Calls Try.prog 17 #[agM m so sc go gc co cc ao ac fo fc, agI ⟨27, A, B, C, D⟩] w (LTo w (rdP m ⟨27, A, B, C, D⟩)) := by
  have K := hide (lto_new (w := w) (x := ((w.alloc (.cells #[.slice so m.sh.length sc, .slice go m.gl.length gc, .slice co m.co.length cc, .slice ao m.ca.length ac, .slice fo m.fn.length fc, .int .i64 m.main] 48)).alloc (.cells #[.int .i64 27, .int .i64 A, .int .i64 B, .int .i64 C, .int .i64 D] 54))) (l := rdP m ⟨27, A, B, C, D⟩) ((G.alloc _ _).more _) [B] (by rfl) (by simp))
  unfold agM agI
  go_enter Try.func17, Try.ntmps17
  go_wp2_with fail
  refine bodyPost_ret (by simp [results, Try.results17, go_sem]; try rfl) rfl ?_
  have := unhide K
  simpa [World.size_alloc] using this
set_option maxHeartbeats 1000000 in
theorem rreads_33 (w : World) (m : Md) (so : Option Addr) (sc : Nat) (go : Option Addr) (gc : Nat) (co : Option Addr) (cc : Nat) (ao : Option Addr) (ac : Nat) (fo : Option Addr) (fc : Nat) (A B C D : Int) : Calls Try.prog 17 #[agM m so sc go gc co cc ao ac fo fc, agI ⟨33, A, B, C, D⟩] w (LTo w (rdP m ⟨33, A, B, C, D⟩)) := by
  have K := hide (lto_new (w := w) (x := ((w.alloc (.cells #[.slice so m.sh.length sc, .slice go m.gl.length gc, .slice co m.co.length cc, .slice ao m.ca.length ac, .slice fo m.fn.length fc, .int .i64 m.main] 48)).alloc (.cells #[.int .i64 33, .int .i64 A, .int .i64 B, .int .i64 C, .int .i64 D] 54))) (l := rdP m ⟨33, A, B, C, D⟩) ((G.alloc _ _).more _) [B] (by rfl) (by simp))
  unfold agM agI
  go_enter Try.func17, Try.ntmps17
  go_wp2_with fail
  refine bodyPost_ret (by simp [results, Try.results17, go_sem]; try rfl) rfl ?_
  have := unhide K
  simpa [World.size_alloc] using this
set_option maxHeartbeats 1000000 in
theorem rreads_35 (w : World) (m : Md) (so : Option Addr) (sc : Nat) (go : Option Addr) (gc : Nat) (co : Option Addr) (cc : Nat) (ao : Option Addr) (ac : Nat) (fo : Option Addr) (fc : Nat) (A B C D : Int) : Calls Try.prog 17 #[agM m so sc go gc co cc ao ac fo fc, agI ⟨35, A, B, C, D⟩] w (LTo w (rdP m ⟨35, A, B, C, D⟩)) := by
  have K := hide (lto_new (w := w) (x := ((w.alloc (.cells #[.slice so m.sh.length sc, .slice go m.gl.length gc, .slice co m.co.length cc, .slice ao m.ca.length ac, .slice fo m.fn.length fc, .int .i64 m.main] 48)).alloc (.cells #[.int .i64 35, .int .i64 A, .int .i64 B, .int .i64 C, .int .i64 D] 54))) (l := rdP m ⟨35, A, B, C, D⟩) ((G.alloc _ _).more _) [B] (by rfl) (by simp))
  unfold agM agI
  go_enter Try.func17, Try.ntmps17
  go_wp2_with fail
  refine bodyPost_ret (by simp [results, Try.results17, go_sem]; try rfl) rfl ?_
  have := unhide K
  simpa [World.size_alloc] using this
set_option maxHeartbeats 1000000 in
theorem rreads_39 (w : World) (m : Md) (so : Option Addr) (sc : Nat) (go : Option Addr) (gc : Nat) (co : Option Addr) (cc : Nat) (ao : Option Addr) (ac : Nat) (fo : Option Addr) (fc : Nat) (A B C D : Int) : Calls Try.prog 17 #[agM m so sc go gc co cc ao ac fo fc, agI ⟨39, A, B, C, D⟩] w (LTo w (rdP m ⟨39, A, B, C, D⟩)) := by
  have K := hide (lto_new (w := w) (x := ((w.alloc (.cells #[.slice so m.sh.length sc, .slice go m.gl.length gc, .slice co m.co.length cc, .slice ao m.ca.length ac, .slice fo m.fn.length fc, .int .i64 m.main] 48)).alloc (.cells #[.int .i64 39, .int .i64 A, .int .i64 B, .int .i64 C, .int .i64 D] 54))) (l := rdP m ⟨39, A, B, C, D⟩) ((G.alloc _ _).more _) [B] (by rfl) (by simp))
  unfold agM agI
  go_enter Try.func17, Try.ntmps17
  go_wp2_with fail
  refine bodyPost_ret (by simp [results, Try.results17, go_sem]; try rfl) rfl ?_
  have := unhide K
  simpa [World.size_alloc] using this
set_option maxHeartbeats 1000000 in
theorem rreads_3 (w : World) (m : Md) (so : Option Addr) (sc : Nat) (go : Option Addr) (gc : Nat) (co : Option Addr) (cc : Nat) (ao : Option Addr) (ac : Nat) (fo : Option Addr) (fc : Nat) (A B C D : Int) : Calls Try.prog 17 #[agM m so sc go gc co cc ao ac fo fc, agI ⟨3, A, B, C, D⟩] w (LTo w (rdP m ⟨3, A, B, C, D⟩)) := by
  have K := hide (lto_new (w := w) (x := ((w.alloc (.cells #[.slice so m.sh.length sc, .slice go m.gl.length gc, .slice co m.co.length cc, .slice ao m.ca.length ac, .slice fo m.fn.length fc, .int .i64 m.main] 48)).alloc (.cells #[.int .i64 3, .int .i64 A, .int .i64 B, .int .i64 C, .int .i64 D] 54))) (l := rdP m ⟨3, A, B, C, D⟩) ((G.alloc _ _).more _) [B, C] (by rfl) (by simp))
  unfold agM agI
  go_enter Try.func17, Try.ntmps17
  go_wp2_with fail
  refine bodyPost_ret (by simp [results, Try.results17, go_sem]; try rfl) rfl ?_
  have := unhide K
  simpa [World.size_alloc] using this
set_option maxHeartbeats 1000000 in
theorem rreads_4 (w : World) (m : Md) (so : Option Addr) (sc : Nat) (go : Option Addr) (gc : Nat) (co : Option Addr) (cc : Nat) (ao : Option Addr) (ac : Nat) (fo : Option Addr) (fc : Nat) (A B C D : Int) : Calls Try.prog 17 #[agM m so sc go gc co cc ao ac fo fc, agI ⟨4, A, B, C, D⟩] w (LTo w (rdP m ⟨4, A, B, C, D⟩)) := by
  have K := hide (lto_new (w := w) (x := ((w.alloc (.cells #[.slice so m.sh.length sc, .slice go m.gl.length gc, .slice co m.co.length cc, .slice ao m.ca.length ac, .slice fo m.fn.length fc, .int .i64 m.main] 48)).alloc (.cells #[.int .i64 4, .int .i64 A, .int .i64 B, .int .i64 C, .int .i64 D] 54))) (l := rdP m ⟨4, A, B, C, D⟩) ((G.alloc _ _).more _) [B, C] (by rfl) (by simp))
  unfold agM agI
  go_enter Try.func17, Try.ntmps17
  go_wp2_with fail
  refine bodyPost_ret (by simp [results, Try.results17, go_sem]; try rfl) rfl ?_
  have := unhide K
  simpa [World.size_alloc] using this
set_option maxHeartbeats 1000000 in
theorem rreads_5 (w : World) (m : Md) (so : Option Addr) (sc : Nat) (go : Option Addr) (gc : Nat) (co : Option Addr) (cc : Nat) (ao : Option Addr) (ac : Nat) (fo : Option Addr) (fc : Nat) (A B C D : Int) : Calls Try.prog 17 #[agM m so sc go gc co cc ao ac fo fc, agI ⟨5, A, B, C, D⟩] w (LTo w (rdP m ⟨5, A, B, C, D⟩)) := by
  have K := hide (lto_new (w := w) (x := ((w.alloc (.cells #[.slice so m.sh.length sc, .slice go m.gl.length gc, .slice co m.co.length cc, .slice ao m.ca.length ac, .slice fo m.fn.length fc, .int .i64 m.main] 48)).alloc (.cells #[.int .i64 5, .int .i64 A, .int .i64 B, .int .i64 C, .int .i64 D] 54))) (l := rdP m ⟨5, A, B, C, D⟩) ((G.alloc _ _).more _) [B, C] (by rfl) (by simp))
  unfold agM agI
  go_enter Try.func17, Try.ntmps17
  go_wp2_with fail
  refine bodyPost_ret (by simp [results, Try.results17, go_sem]; try rfl) rfl ?_
  have := unhide K
  simpa [World.size_alloc] using this
set_option maxHeartbeats 1000000 in
theorem rreads_6 (w : World) (m : Md) (so : Option Addr) (sc : Nat) (go : Option Addr) (gc : Nat) (co : Option Addr) (cc : Nat) (ao : Option Addr) (ac : Nat) (fo : Option Addr) (fc : Nat) (A B C D : Int) : Calls Try.prog 17 #[agM m so sc go gc co cc ao ac fo fc, agI ⟨6, A, B, C, D⟩] w (LTo w (rdP m ⟨6, A, B, C, D⟩)) := by
  have K := hide (lto_new (w := w) (x := ((w.alloc (.cells #[.slice so m.sh.length sc, .slice go m.gl.length gc, .slice co m.co.length cc, .slice ao m.ca.length ac, .slice fo m.fn.length fc, .int .i64 m.main] 48)).alloc (.cells #[.int .i64 6, .int .i64 A, .int .i64 B, .int .i64 C, .int .i64 D] 54))) (l := rdP m ⟨6, A, B, C, D⟩) ((G.alloc _ _).more _) [B, C] (by rfl) (by simp))
  unfold agM agI
  go_enter Try.func17, Try.ntmps17
  go_wp2_with fail
  refine bodyPost_ret (by simp [results, Try.results17, go_sem]; try rfl) rfl ?_
  have := unhide K
  simpa [World.size_alloc] using this
set_option maxHeartbeats 1000000 in
theorem rreads_7 (w : World) (m : Md) (so : Option Addr) (sc : Nat) (go : Option Addr) (gc : Nat) (co : Option Addr) (cc : Nat) (ao : Option Addr) (ac : Nat) (fo : Option Addr) (fc : Nat) (A B C D : Int) : Calls Try.prog 17 #[agM m so sc go gc co cc ao ac fo fc, agI ⟨7, A, B, C, D⟩] w (LTo w (rdP m ⟨7, A, B, C, D⟩)) := by
  have K := hide (lto_new (w := w) (x := ((w.alloc (.cells #[.slice so m.sh.length sc, .slice go m.gl.length gc, .slice co m.co.length cc, .slice ao m.ca.length ac, .slice fo m.fn.length fc, .int .i64 m.main] 48)).alloc (.cells #[.int .i64 7, .int .i64 A, .int .i64 B, .int .i64 C, .int .i64 D] 54))) (l := rdP m ⟨7, A, B, C, D⟩) ((G.alloc _ _).more _) [B, C] (by rfl) (by simp))
  unfold agM agI
  go_enter Try.func17, Try.ntmps17
  go_wp2_with fail
  refine bodyPost_ret (by simp [results, Try.results17, go_sem]; try rfl) rfl ?_
  have := unhide K
  simpa [World.size_alloc] using this
set_option maxHeartbeats 1000000 in
theorem rreads_8 (w : World) (m : Md) (so : Option Addr) (sc : Nat) (go : Option Addr) (gc : Nat) (co : Option Addr) (cc : Nat) (ao : Option Addr) (ac : Nat) (fo : Option Addr) (fc : Nat) (A B C D : Int) : Calls Try.prog 17 #[agM m so sc go gc co cc ao ac fo fc, agI ⟨8, A, B, C, D⟩] w (LTo w (rdP m ⟨8, A, B, C, D⟩)) := by
  have K := hide (lto_new (w := w) (x := ((w.alloc (.cells #[.slice so m.sh.length sc, .slice go m.gl.length gc, .slice co m.co.length cc, .slice ao m.ca.length ac, .slice fo m.fn.length fc, .int .i64 m.main] 48)).alloc (.cells #[.int .i64 8, .int .i64 A, .int .i64 B, .int .i64 C, .int .i64 D] 54))) (l := rdP m ⟨8, A, B, C, D⟩) ((G.alloc _ _).more _) [B, C] (by rfl) (by simp))
  unfold agM agI
  go_enter Try.func17, Try.ntmps17
  go_wp2_with fail
  refine bodyPost_ret (by simp [results, Try.results17, go_sem]; try rfl) rfl ?_
  have := unhide K
  simpa [World.size_alloc] using this
set_option maxHeartbeats 1000000 in
theorem rreads_9 (w : World) (m : Md) (so : Option Addr) (sc : Nat) (go : Option Addr) (gc : Nat) (co : Option Addr) (cc : Nat) (ao : Option Addr) (ac : Nat) (fo : Option Addr) (fc : Nat) (A B C D : Int) : Calls Try.prog 17 #[agM m so sc go gc co cc ao ac fo fc, agI ⟨9, A, B, C, D⟩] w (LTo w (rdP m ⟨9, A, B, C, D⟩)) := by
  have K := hide (lto_new (w := w) (x := ((w.alloc (.cells #[.slice so m.sh.length sc, .slice go m.gl.length gc, .slice co m.co.length cc, .slice ao m.ca.length ac, .slice fo m.fn.length fc, .int .i64 m.main] 48)).alloc (.cells #[.int .i64 9, .int .i64 A, .int .i64 B, .int .i64 C, .int .i64 D] 54))) (l := rdP m ⟨9, A, B, C, D⟩) ((G.alloc _ _).more _) [B, C] (by rfl) (by simp))
  unfold agM agI
  go_enter Try.func17, Try.ntmps17
  go_wp2_with fail
  refine bodyPost_ret (by simp [results, Try.results17, go_sem]; try rfl) rfl ?_
  have := unhide K
  simpa [World.size_alloc] using this
set_option maxHeartbeats 1000000 in
theorem rreads_10 (w : World) (m : Md) (so : Option Addr) (sc : Nat) (go : Option Addr) (gc : Nat) (co : Option Addr) (cc : Nat) (ao : Option Addr) (ac : Nat) (fo : Option Addr) (fc : Nat) (A B C D : Int) : Calls Try.prog 17 #[agM m so sc go gc co cc ao ac fo fc, agI ⟨10, A, B, C, D⟩] w (LTo w (rdP m ⟨10, A, B, C, D⟩)) := by
  have K := hide (lto_new (w := w) (x := ((w.alloc (.cells #[.slice so m.sh.length sc, .slice go m.gl.length gc, .slice co m.co.length cc, .slice ao m.ca.length ac, .slice fo m.fn.length fc, .int .i64 m.main] 48)).alloc (.cells #[.int .i64 10, .int .i64 A, .int .i64 B, .int .i64 C, .int .i64 D] 54))) (l := rdP m ⟨10, A, B, C, D⟩) ((G.alloc _ _).more _) [B, C] (by rfl) (by simp))
  unfold agM agI
  go_enter Try.func17, Try.ntmps17
  go_wp2_with fail
  refine bodyPost_ret (by simp [results, Try.results17, go_sem]; try rfl) rfl ?_
  have := unhide K
  simpa [World.size_alloc] using this
set_option maxHeartbeats 1000000 in
theorem rreads_11 (w : World) (m : Md) (so : Option Addr) (sc : Nat) (go : Option Addr) (gc : Nat) (co : Option Addr) (cc : Nat) (ao : Option Addr) (ac : Nat) (fo : Option Addr) (fc : Nat) (A B C D : Int) : Calls Try.prog 17 #[agM m so sc go gc co cc ao ac fo fc, agI ⟨11, A, B, C, D⟩] w (LTo w (rdP m ⟨11, A, B, C, D⟩)) := by
  have K := hide (lto_new (w := w) (x := ((w.alloc (.cells #[.slice so m.sh.length sc, .slice go m.gl.length gc, .slice co m.co.length cc, .slice ao m.ca.length ac, .slice fo m.fn.length fc, .int .i64 m.main] 48)).alloc (.cells #[.int .i64 11, .int .i64 A, .int .i64 B, .int .i64 C, .int .i64 D] 54))) (l := rdP m ⟨11, A, B, C, D⟩) ((G.alloc _ _).more _) [B, C] (by rfl) (by simp))
  unfold agM agI
  go_enter Try.func17, Try.ntmps17
  go_wp2_with fail
  refine bodyPost_ret (by simp [results, Try.results17, go_sem]; try rfl) rfl ?_
  have := unhide K
  simpa [World.size_alloc] using this
set_option maxHeartbeats 1000000 in
theorem rreads_12 (w : World) (m : Md) (so : Option Addr) (sc : Nat) (go : Option Addr) (gc : Nat) (co : Option Addr) (cc : Nat) (ao : Option Addr) (ac : Nat) (fo : Option Addr) (fc : Nat) (A B C D : Int) : Calls Try.prog 17 #[agM m so sc go gc co cc ao ac fo fc, agI ⟨12, A, B, C, D⟩] w (LTo w (rdP m ⟨12, A, B, C, D⟩)) := by
  have K := hide (lto_new (w := w) (x := ((w.alloc (.cells #[.slice so m.sh.length sc, .slice go m.gl.length gc, .slice co m.co.length cc, .slice ao m.ca.length ac, .slice fo m.fn.length fc, .int .i64 m.main] 48)).alloc (.cells #[.int .i64 12, .int .i64 A, .int .i64 B, .int .i64 C, .int .i64 D] 54))) (l := rdP m ⟨12, A, B, C, D⟩) ((G.alloc _ _).more _) [B, C] (by rfl) (by simp))
  unfold agM agI
  go_enter Try.func17, Try.ntmps17
  go_wp2_with fail
  refine bodyPost_ret (by simp [results, Try.results17, go_sem]; try rfl) rfl ?_
  have := unhide K
  simpa [World.size_alloc] using this
set_option maxHeartbeats 1000000 in
theorem rreads_13 (w : World) (m : Md) (so : Option Addr) (sc : Nat) (go : Option Addr) (gc : Nat) (co : Option Addr) (cc : Nat) (ao : Option Addr) (ac : Nat) (fo : Option Addr) (fc : Nat) (A B C D : Int) : Calls Try.prog 17 #[agM m so sc go gc co cc ao ac fo fc, agI ⟨13, A, B, C, D⟩] w (LTo w (rdP m ⟨13, A, B, C, D⟩)) := by
  have K := hide (lto_new (w := w) (x := ((w.alloc (.cells #[.slice so m.sh.length sc, .slice go m.gl.length gc, .slice co m.co.length cc, .slice ao m.ca.length ac, .slice fo m.fn.length fc, .int .i64 m.main] 48)).alloc (.cells #[.int .i64 13, .int .i64 A, .int .i64 B, .int .i64 C, .int .i64 D] 54))) (l := rdP m ⟨13, A, B, C, D⟩) ((G.alloc _ _).more _) [B, C] (by rfl) (by simp))
  unfold agM agI
  go_enter Try.func17, Try.ntmps17
  go_wp2_with fail
  refine bodyPost_ret (by simp [results, Try.results17, go_sem]; try rfl) rfl ?_
  have := unhide K
  simpa [World.size_alloc] using this
set_option maxHeartbeats 1000000 in
theorem rreads_14 (w : World) (m : Md) (so : Option Addr) (sc : Nat) (go : Option Addr) (gc : Nat) (co : Option Addr) (cc : Nat) (ao : Option Addr) (ac : Nat) (fo : Option Addr) (fc : Nat) (A B C D : Int) : Calls Try.prog 17 #[agM m so sc go gc co cc ao ac fo fc, agI ⟨14, A, B, C, D⟩] w (LTo w (rdP m ⟨14, A, B, C, D⟩)) := by
  have K := hide (lto_new (w := w) (x := ((w.alloc (.cells #[.slice so m.sh.length sc, .slice go m.gl.length gc, .slice co m.co.length cc, .slice ao m.ca.length ac, .slice fo m.fn.length fc, .int .i64 m.main] 48)).alloc (.cells #[.int .i64 14, .int .i64 A, .int .i64 B, .int .i64 C, .int .i64 D] 54))) (l := rdP m ⟨14, A, B, C, D⟩) ((G.alloc _ _).more _) [B, C] (by rfl) (by simp))
  unfold agM agI
  go_enter Try.func17, Try.ntmps17
  go_wp2_with fail
  refine bodyPost_ret (by simp [results, Try.results17, go_sem]; try rfl) rfl ?_
  have := unhide K
  simpa [World.size_alloc] using this
set_option maxHeartbeats 1000000 in
theorem rreads_15 (w : World) (m : Md) (so : Option Addr) (sc : Nat) (go : Option Addr) (gc : Nat) (co : Option Addr) (cc : Nat) (ao : Option Addr) (ac : Nat) (fo : Option Addr) (fc : Nat) (A B C D : Int) : Calls Try.prog 17 #[agM m so sc go gc co cc ao ac fo fc, agI ⟨15, A, B, C, D⟩] w (LTo w (rdP m ⟨15, A, B, C, D⟩)) := by
  have K := hide (lto_new (w := w) (x := ((w.alloc (.cells #[.slice so m.sh.length sc, .slice go m.gl.length gc, .slice co m.co.length cc, .slice ao m.ca.length ac, .slice fo m.fn.length fc, .int .i64 m.main] 48)).alloc (.cells #[.int .i64 15, .int .i64 A, .int .i64 B, .int .i64 C, .int .i64 D] 54))) (l := rdP m ⟨15, A, B, C, D⟩) ((G.alloc _ _).more _) [B, C] (by rfl) (by simp))
  unfold agM agI
  go_enter Try.func17, Try.ntmps17
  go_wp2_with fail
  refine bodyPost_ret (by simp [results, Try.results17, go_sem]; try rfl) rfl ?_
  have := unhide K
  simpa [World.size_alloc] using this
set_option maxHeartbeats 1000000 in
theorem rreads_16 (w : World) (m : Md) (so : Option Addr) (sc : Nat) (go : Option Addr) (gc : Nat) (co : Option Addr) (cc : Nat) (ao : Option Addr) (ac : Nat) (fo : Option Addr) (fc : Nat) (A B C D : Int) : Calls Try.prog 17 #[agM m so sc go gc co cc ao ac fo fc, agI ⟨16, A, B, C, D⟩] w (LTo w (rdP m ⟨16, A, B, C, D⟩)) := by
  have K := hide (lto_new (w := w) (x := ((w.alloc (.cells #[.slice so m.sh.length sc, .slice go m.gl.length gc, .slice co m.co.length cc, .slice ao m.ca.length ac, .slice fo m.fn.length fc, .int .i64 m.main] 48)).alloc (.cells #[.int .i64 16, .int .i64 A, .int .i64 B, .int .i64 C, .int .i64 D] 54))) (l := rdP m ⟨16, A, B, C, D⟩) ((G.alloc _ _).more _) [B, C] (by rfl) (by simp))
  unfold agM agI
  go_enter Try.func17, Try.ntmps17
  go_wp2_with fail
  refine bodyPost_ret (by simp [results, Try.results17, go_sem]; try rfl) rfl ?_
  have := unhide K
  simpa [World.size_alloc] using this
set_option maxHeartbeats 1000000 in
theorem rreads_30 (w : World) (m : Md) (so : Option Addr) (sc : Nat) (go : Option Addr) (gc : Nat) (co : Option Addr) (cc : Nat) (ao : Option Addr) (ac : Nat) (fo : Option Addr) (fc : Nat) (A B C D : Int) : Calls Try.prog 17 #[agM m so sc go gc co cc ao ac fo fc, agI ⟨30, A, B, C, D⟩] w (LTo w (rdP m ⟨30, A, B, C, D⟩)) := by
  have K := hide (lto_new (w := w) (x := ((w.alloc (.cells #[.slice so m.sh.length sc, .slice go m.gl.length gc, .slice co m.co.length cc, .slice ao m.ca.length ac, .slice fo m.fn.length fc, .int .i64 m.main] 48)).alloc (.cells #[.int .i64 30, .int .i64 A, .int .i64 B, .int .i64 C, .int .i64 D] 54))) (l := rdP m ⟨30, A, B, C, D⟩) ((G.alloc _ _).more _) [B, C] (by rfl) (by simp))
  unfold agM agI
  go_enter Try.func17, Try.ntmps17
  go_wp2_with fail
  refine bodyPost_ret (by simp [results, Try.results17, go_sem]; try rfl) rfl ?_
  have := unhide K
  simpa [World.size_alloc] using this
set_option maxHeartbeats 1000000 in
theorem rreads_19 (w : World) (m : Md) (so : Option Addr) (sc : Nat) (go : Option Addr) (gc : Nat) (co : Option Addr) (cc : Nat) (ao : Option Addr) (ac : Nat) (fo : Option Addr) (fc : Nat) (A B C D : Int) : Calls Try.prog 17 #[agM m so sc go gc co cc ao ac fo fc, agI ⟨19, A, B, C, D⟩] w (LTo w (rdP m ⟨19, A, B, C, D⟩)) := by
  have K := hide (lto_new (w := w) (x := ((w.alloc (.cells #[.slice so m.sh.length sc, .slice go m.gl.length gc, .slice co m.co.length cc, .slice ao m.ca.length ac, .slice fo m.fn.length fc, .int .i64 m.main] 48)).alloc (.cells #[.int .i64 19, .int .i64 A, .int .i64 B, .int .i64 C, .int .i64 D] 54))) (l := rdP m ⟨19, A, B, C, D⟩) ((G.alloc _ _).more _) [A] (by rfl) (by simp))
  unfold agM agI
  go_enter Try.func17, Try.ntmps17
  go_wp2_with fail
  refine bodyPost_ret (by simp [results, Try.results17, go_sem]; try rfl) rfl ?_
  have := unhide K
  simpa [World.size_alloc] using this
set_option maxHeartbeats 1000000 in
theorem rreads_40 (w : World) (m : Md) (so : Option Addr) (sc : Nat) (go : Option Addr) (gc : Nat) (co : Option Addr) (cc : Nat) (ao : Option Addr) (ac : Nat) (fo : Option Addr) (fc : Nat) (A B C D : Int) : Calls Try.prog 17 #[agM m so sc go gc co cc ao ac fo fc, agI ⟨40, A, B, C, D⟩] w (LTo w (rdP m ⟨40, A, B, C, D⟩)) := by
  have K := hide (lto_new (w := w) (x := ((w.alloc (.cells #[.slice so m.sh.length sc, .slice go m.gl.length gc, .slice co m.co.length cc, .slice ao m.ca.length ac, .slice fo m.fn.length fc, .int .i64 m.main] 48)).alloc (.cells #[.int .i64 40, .int .i64 A, .int .i64 B, .int .i64 C, .int .i64 D] 54))) (l := rdP m ⟨40, A, B, C, D⟩) ((G.alloc _ _).more _) [A] (by rfl) (by simp))
  unfold agM agI
  go_enter Try.func17, Try.ntmps17
  go_wp2_with fail
  refine bodyPost_ret (by simp [results, Try.results17, go_sem]; try rfl) rfl ?_
  have := unhide K
  simpa [World.size_alloc] using this
set_option maxHeartbeats 1000000 in
theorem rreads_42 (w : World) (m : Md) (so : Option Addr) (sc : Nat) (go : Option Addr) (gc : Nat) (co : Option Addr) (cc : Nat) (ao : Option Addr) (ac : Nat) (fo : Option Addr) (fc : Nat) (A B C D : Int) : Calls Try.prog 17 #[agM m so sc go gc co cc ao ac fo fc, agI ⟨42, A, B, C, D⟩] w (LTo w (rdP m ⟨42, A, B, C, D⟩)) := by
  have K := hide (lto_new (w := w) (x := ((w.alloc (.cells #[.slice so m.sh.length sc, .slice go m.gl.length gc, .slice co m.co.length cc, .slice ao m.ca.length ac, .slice fo m.fn.length fc, .int .i64 m.main] 48)).alloc (.cells #[.int .i64 42, .int .i64 A, .int .i64 B, .int .i64 C, .int .i64 D] 54))) (l := rdP m ⟨42, A, B, C, D⟩) ((G.alloc _ _).more _) [A] (by rfl) (by simp))
  unfold agM agI
  go_enter Try.func17, Try.ntmps17
  go_wp2_with fail
  refine bodyPost_ret (by simp [results, Try.results17, go_sem]; try rfl) rfl ?_
  have := unhide K
  simpa [World.size_alloc] using this
set_option maxHeartbeats 1000000 in
theorem rreads_26 (w : World) (m : Md) (so : Option Addr) (sc : Nat) (go : Option Addr) (gc : Nat) (co : Option Addr) (cc : Nat) (ao : Option Addr) (ac : Nat) (fo : Option Addr) (fc : Nat) (A B C D : Int) : Calls Try.prog 17 #[agM m so sc go gc co cc ao ac fo fc, agI ⟨26, A, B, C, D⟩] w (LTo w (rdP m ⟨26, A, B, C, D⟩)) := by
  have K := hide (lto_new (w := w) (x := ((w.alloc (.cells #[.slice so m.sh.length sc, .slice go m.gl.length gc, .slice co m.co.length cc, .slice ao m.ca.length ac, .slice fo m.fn.length fc, .int .i64 m.main] 48)).alloc (.cells #[.int .i64 26, .int .i64 A, .int .i64 B, .int .i64 C, .int .i64 D] 54))) (l := rdP m ⟨26, A, B, C, D⟩) ((G.alloc _ _).more _) [C] (by rfl) (by simp))
  unfold agM agI
  go_enter Try.func17, Try.ntmps17
  go_wp2_with fail
  refine bodyPost_ret (by simp [results, Try.results17, go_sem]; try rfl) rfl ?_
  have := unhide K
  simpa [World.size_alloc] using this
set_option maxHeartbeats 1000000 in
theorem rreads_37 (w : World) (m : Md) (so : Option Addr) (sc : Nat) (go : Option Addr) (gc : Nat) (co : Option Addr) (cc : Nat) (ao : Option Addr) (ac : Nat) (fo : Option Addr) (fc : Nat) (A B C D : Int) : Calls Try.prog 17 #[agM m so sc go gc co cc ao ac fo fc, agI ⟨37, A, B, C, D⟩] w (LTo w (rdP m ⟨37, A, B, C, D⟩)) := by
  have K := hide (lto_new (w := w) (x := ((w.alloc (.cells #[.slice so m.sh.length sc, .slice go m.gl.length gc, .slice co m.co.length cc, .slice ao m.ca.length ac, .slice fo m.fn.length fc, .int .i64 m.main] 48)).alloc (.cells #[.int .i64 37, .int .i64 A, .int .i64 B, .int .i64 C, .int .i64 D] 54))) (l := rdP m ⟨37, A, B, C, D⟩) ((G.alloc _ _).more _) [C] (by rfl) (by simp))
  unfold agM agI
  go_enter Try.func17, Try.ntmps17
  go_wp2_with fail
  refine bodyPost_ret (by simp [results, Try.results17, go_sem]; try rfl) rfl ?_
  have := unhide K
  simpa [World.size_alloc] using this
set_option maxHeartbeats 1000000 in
theorem rreads_28 (w : World) (m : Md) (so : Option Addr) (sc : Nat) (go : Option Addr) (gc : Nat) (co : Option Addr) (cc : Nat) (ao : Option Addr) (ac : Nat) (fo : Option Addr) (fc : Nat) (A B C D : Int) : Calls Try.prog 17 #[agM m so sc go gc co cc ao ac fo fc, agI ⟨28, A, B, C, D⟩] w (LTo w (rdP m ⟨28, A, B, C, D⟩)) := by
  have K := hide (lto_new (w := w) (x := ((w.alloc (.cells #[.slice so m.sh.length sc, .slice go m.gl.length gc, .slice co m.co.length cc, .slice ao m.ca.length ac, .slice fo m.fn.length fc, .int .i64 m.main] 48)).alloc (.cells #[.int .i64 28, .int .i64 A, .int .i64 B, .int .i64 C, .int .i64 D] 54))) (l := rdP m ⟨28, A, B, C, D⟩) ((G.alloc _ _).more _) [A, C] (by rfl) (by simp))
  unfold agM agI
  go_enter Try.func17, Try.ntmps17
  go_wp2_with fail
  refine bodyPost_ret (by simp [results, Try.results17, go_sem]; try rfl) rfl ?_
  have := unhide K
  simpa [World.size_alloc] using this
set_option maxHeartbeats 1000000 in
theorem rreads_29 (w : World) (m : Md) (so : Option Addr) (sc : Nat) (go : Option Addr) (gc : Nat) (co : Option Addr) (cc : Nat) (ao : Option Addr) (ac : Nat) (fo : Option Addr) (fc : Nat) (A B C D : Int) : Calls Try.prog 17 #[agM m so sc go gc co cc ao ac fo fc, agI ⟨29, A, B, C, D⟩] w (LTo w (rdP m ⟨29, A, B, C, D⟩)) := by
  have K := hide (lto_new (w := w) (x := ((w.alloc (.cells #[.slice so m.sh.length sc, .slice go m.gl.length gc, .slice co m.co.length cc, .slice ao m.ca.length ac, .slice fo m.fn.length fc, .int .i64 m.main] 48)).alloc (.cells #[.int .i64 29, .int .i64 A, .int .i64 B, .int .i64 C, .int .i64 D] 54))) (l := rdP m ⟨29, A, B, C, D⟩) ((G.alloc _ _).more _) [A, C] (by rfl) (by simp))
  unfold agM agI
  go_enter Try.func17, Try.ntmps17
  go_wp2_with fail
  refine bodyPost_ret (by simp [results, Try.results17, go_sem]; try rfl) rfl ?_
  have := unhide K
  simpa [World.size_alloc] using this
set_option maxHeartbeats 1000000 in
theorem rreads_31 (w : World) (m : Md) (so : Option Addr) (sc : Nat) (go : Option Addr) (gc : Nat) (co : Option Addr) (cc : Nat) (ao : Option Addr) (ac : Nat) (fo : Option Addr) (fc : Nat) (A B C D : Int) : Calls Try.prog 17 #[agM m so sc go gc co cc ao ac fo fc, agI ⟨31, A, B, C, D⟩] w (LTo w (rdP m ⟨31, A, B, C, D⟩)) := by
  have K := hide (lto_new (w := w) (x := ((w.alloc (.cells #[.slice so m.sh.length sc, .slice go m.gl.length gc, .slice co m.co.length cc, .slice ao m.ca.length ac, .slice fo m.fn.length fc, .int .i64 m.main] 48)).alloc (.cells #[.int .i64 31, .int .i64 A, .int .i64 B, .int .i64 C, .int .i64 D] 54))) (l := rdP m ⟨31, A, B, C, D⟩) ((G.alloc _ _).more _) [A, B, C] (by rfl) (by simp))
  unfold agM agI
  go_enter Try.func17, Try.ntmps17
  go_wp2_with fail
  refine bodyPost_ret (by simp [results, Try.results17, go_sem]; try rfl) rfl ?_
  have := unhide K
  simpa [World.size_alloc] using this
set_option maxHeartbeats 1000000 in
theorem rreads_32 (w : World) (m : Md) (so : Option Addr) (sc : Nat) (go : Option Addr) (gc : Nat) (co : Option Addr) (cc : Nat) (ao : Option Addr) (ac : Nat) (fo : Option Addr) (fc : Nat) (A B C D : Int) : Calls Try.prog 17 #[agM m so sc go gc co cc ao ac fo fc, agI ⟨32, A, B, C, D⟩] w (LTo w (rdP m ⟨32, A, B, C, D⟩)) := by
  have K := hide (lto_new (w := w) (x := ((w.alloc (.cells #[.slice so m.sh.length sc, .slice go m.gl.length gc, .slice co m.co.length cc, .slice ao m.ca.length ac, .slice fo m.fn.length fc, .int .i64 m.main] 48)).alloc (.cells #[.int .i64 32, .int .i64 A, .int .i64 B, .int .i64 C, .int .i64 D] 54))) (l := rdP m ⟨32, A, B, C, D⟩) ((G.alloc _ _).more _) [A, B, C] (by rfl) (by simp))
  unfold agM agI
  go_enter Try.func17, Try.ntmps17
  go_wp2_with fail
  refine bodyPost_ret (by simp [results, Try.results17, go_sem]; try rfl) rfl ?_
  have := unhide K
  simpa [World.size_alloc] using this
set_option maxHeartbeats 1000000 in
theorem rreads_38 (w : World) (m : Md) (so : Option Addr) (sc : Nat) (go : Option Addr) (gc : Nat) (co : Option Addr) (cc : Nat) (ao : Option Addr) (ac : Nat) (fo : Option Addr) (fc : Nat) (A B C D : Int) : Calls Try.prog 17 #[agM m so sc go gc co cc ao ac fo fc, agI ⟨38, A, B, C, D⟩] w (LTo w (rdP m ⟨38, A, B, C, D⟩)) := by
  have K := hide (lto_new (w := w) (x := ((w.alloc (.cells #[.slice so m.sh.length sc, .slice go m.gl.length gc, .slice co m.co.length cc, .slice ao m.ca.length ac, .slice fo m.fn.length fc, .int .i64 m.main] 48)).alloc (.cells #[.int .i64 38, .int .i64 A, .int .i64 B, .int .i64 C, .int .i64 D] 54))) (l := rdP m ⟨38, A, B, C, D⟩) ((G.alloc _ _).more _) [A, B] (by rfl) (by simp))
  unfold agM agI
  go_enter Try.func17, Try.ntmps17
  go_wp2_with fail
  refine bodyPost_ret (by simp [results, Try.results17, go_sem]; try rfl) rfl ?_
  have := unhide K
  simpa [World.size_alloc] using this
set_option maxHeartbeats 1000000 in
theorem rreads_22 (w : World) (m : Md) (so : Option Addr) (sc : Nat) (go : Option Addr) (gc : Nat) (co : Option Addr) (cc : Nat) (ao : Option Addr) (ac : Nat) (fo : Option Addr) (fc : Nat) (A B C D : Int) : Calls Try.prog 17 #[agM m so sc go gc co cc ao ac fo fc, agI ⟨22, A, B, C, D⟩] w (LTo w (rdP m ⟨22, A, B, C, D⟩)) := by
  cases hA : (A == -1)
  · have FI : rdP m ⟨22, A, B, C, D⟩ = [A] := by show [A].filter (fun s => s != -1) = [A]; simp [bne, hA]
    have K := hide (lto_new (w := w) (x := ((w.alloc (.cells #[.slice so m.sh.length sc, .slice go m.gl.length gc, .slice co m.co.length cc, .slice ao m.ca.length ac, .slice fo m.fn.length fc, .int .i64 m.main] 48)).alloc (.cells #[.int .i64 22, .int .i64 A, .int .i64 B, .int .i64 C, .int .i64 D] 54))) (l := rdP m ⟨22, A, B, C, D⟩) ((G.alloc _ _).more _) [A] FI (by simp))
    clear FI
    unfold agM agI
    go_enter Try.func17, Try.ntmps17
    go_wp2_with fail
    refine bodyPost_ret (by simp [results, Try.results17, go_sem]; try rfl) rfl ?_
    have := unhide K
    simpa [World.size_alloc] using this
  · have FI : rdP m ⟨22, A, B, C, D⟩ = [] := by show [A].filter (fun s => s != -1) = []; simp [bne, hA]
    have K : Hid (∀ x, G w x → LTo w (rdP m ⟨22, A, B, C, D⟩) (.returned (.slice none 0 0)) x) := hide (fun x g => by rw [FI]; exact ⟨_, rfl, isl_nil x, g⟩)
    clear FI
    unfold agM agI
    go_enter Try.func17, Try.ntmps17
    go_wp2_with fail
    refine bodyPost_ret (by simp [results, Try.results17, go_sem]; try rfl) rfl ?_
    exact unhide K _ ((G.alloc _ _).more _)
set_option maxHeartbeats 4000000 in
theorem rreads_lo (w : World) (m : Md) (so : Option Addr) (sc : Nat) (go : Option Addr) (gc : Nat) (co : Option Addr) (cc : Nat) (ao : Option Addr) (ac : Nat) (fo : Option Addr) (fc : Nat) (op A B C D : Int) (hs : op < 3) (hop : ∀ k ∈ ([1, 17, 27, 33, 35, 39, 30, 19, 40, 42, 26, 37, 28, 29, 31, 32, 38, 22, 20, 21, 23, 24, 36, 41] : List Int), op ≠ k) : Calls Try.prog 17 #[agM m so sc go gc co cc ao ac fo fc, agI ⟨op, A, B, C, D⟩] w (LTo w (rdP m ⟨op, A, B, C, D⟩)) := by
  have FI : rdP m ⟨op, A, B, C, D⟩ = [] := by
    have hm : ∀ k : Int, 3 ≤ k → k ≤ 16 → op ≠ k := fun k _ _ => by omega
    have h18 : ∀ k ∈ ([3, 4, 5, 6, 7, 8, 9, 10, 11, 12, 13, 14, 15, 16] : List Int), op ≠ k := fun k hk => hm k (by revert k; decide) (by revert k; decide)
    unfold rdP
    simp only [List.forall_mem_cons] at hop h18
    simp [hop, h18]
  have K : Hid (∀ x, G w x → LTo w (rdP m ⟨op, A, B, C, D⟩) (.returned (.slice none 0 0)) x) := hide (fun x g => by rw [FI]; exact ⟨_, rfl, isl_nil x, g⟩)
  have q1 : (op == 1) = false := beq_eq_false_iff_ne.2 (hop 1 (by decide))
  have q17 : (op == 17) = false := beq_eq_false_iff_ne.2 (hop 17 (by decide))
  have q27 : (op == 27) = false := beq_eq_false_iff_ne.2 (hop 27 (by decide))
  have q33 : (op == 33) = false := beq_eq_false_iff_ne.2 (hop 33 (by decide))
  have q35 : (op == 35) = false := beq_eq_false_iff_ne.2 (hop 35 (by decide))
  have q39 : (op == 39) = false := beq_eq_false_iff_ne.2 (hop 39 (by decide))
  have q30 : (op == 30) = false := beq_eq_false_iff_ne.2 (hop 30 (by decide))
  have q19 : (op == 19) = false := beq_eq_false_iff_ne.2 (hop 19 (by decide))
  have q40 : (op == 40) = false := beq_eq_false_iff_ne.2 (hop 40 (by decide))
  have q42 : (op == 42) = false := beq_eq_false_iff_ne.2 (hop 42 (by decide))
  have q26 : (op == 26) = false := beq_eq_false_iff_ne.2 (hop 26 (by decide))
  have q37 : (op == 37) = false := beq_eq_false_iff_ne.2 (hop 37 (by decide))
  have q28 : (op == 28) = false := beq_eq_false_iff_ne.2 (hop 28 (by decide))
  have q29 : (op == 29) = false := beq_eq_false_iff_ne.2 (hop 29 (by decide))
  have q31 : (op == 31) = false := beq_eq_false_iff_ne.2 (hop 31 (by decide))
  have q32 : (op == 32) = false := beq_eq_false_iff_ne.2 (hop 32 (by decide))
  have q38 : (op == 38) = false := beq_eq_false_iff_ne.2 (hop 38 (by decide))
  have q22 : (op == 22) = false := beq_eq_false_iff_ne.2 (hop 22 (by decide))
  have q20 : (op == 20) = false := beq_eq_false_iff_ne.2 (hop 20 (by decide))
  have q21 : (op == 21) = false := beq_eq_false_iff_ne.2 (hop 21 (by decide))
  have q23 : (op == 23) = false := beq_eq_false_iff_ne.2 (hop 23 (by decide))
  have q24 : (op == 24) = false := beq_eq_false_iff_ne.2 (hop 24 (by decide))
  have q36 : (op == 36) = false := beq_eq_false_iff_ne.2 (hop 36 (by decide))
  have q41 : (op == 41) = false := beq_eq_false_iff_ne.2 (hop 41 (by decide))
  have s1 : ¬ 3 ≤ op := by omega
  clear hop FI hs
  unfold agM agI
  go_enter Try.func17, Try.ntmps17
  go_wp2_with fail
  refine bodyPost_ret (by simp [results, Try.results17, go_sem]; try rfl) rfl ?_
  exact unhide K _ ((G.alloc _ _).more _)
set_option maxHeartbeats 4000000 in
theorem rreads_hi (w : World) (m : Md) (so : Option Addr) (sc : Nat) (go : Option Addr) (gc : Nat) (co : Option Addr) (cc : Nat) (ao : Option Addr) (ac : Nat) (fo : Option Addr) (fc : Nat) (op A B C D : Int) (hs : 16 < op) (hop : ∀ k ∈ ([1, 17, 27, 33, 35, 39, 30, 19, 40, 42, 26, 37, 28, 29, 31, 32, 38, 22, 20, 21, 23, 24, 36, 41] : List Int), op ≠ k) : Calls Try.prog 17 #[agM m so sc go gc co cc ao ac fo fc, agI ⟨op, A, B, C, D⟩] w (LTo w (rdP m ⟨op, A, B, C, D⟩)) := by
  have FI : rdP m ⟨op, A, B, C, D⟩ = [] := by
    have hm : ∀ k : Int, 3 ≤ k → k ≤ 16 → op ≠ k := fun k _ _ => by omega
    have h18 : ∀ k ∈ ([3, 4, 5, 6, 7, 8, 9, 10, 11, 12, 13, 14, 15, 16] : List Int), op ≠ k := fun k hk => hm k (by revert k; decide) (by revert k; decide)
    unfold rdP
    simp only [List.forall_mem_cons] at hop h18
    simp [hop, h18]
  have K : Hid (∀ x, G w x → LTo w (rdP m ⟨op, A, B, C, D⟩) (.returned (.slice none 0 0)) x) := hide (fun x g => by rw [FI]; exact ⟨_, rfl, isl_nil x, g⟩)
  have q1 : (op == 1) = false := beq_eq_false_iff_ne.2 (hop 1 (by decide))
  have q17 : (op == 17) = false := beq_eq_false_iff_ne.2 (hop 17 (by decide))
  have q27 : (op == 27) = false := beq_eq_false_iff_ne.2 (hop 27 (by decide))
  have q33 : (op == 33) = false := beq_eq_false_iff_ne.2 (hop 33 (by decide))
  have q35 : (op == 35) = false := beq_eq_false_iff_ne.2 (hop 35 (by decide))
  have q39 : (op == 39) = false := beq_eq_false_iff_ne.2 (hop 39 (by decide))
  have q30 : (op == 30) = false := beq_eq_false_iff_ne.2 (hop 30 (by decide))
  have q19 : (op == 19) = false := beq_eq_false_iff_ne.2 (hop 19 (by decide))
  have q40 : (op == 40) = false := beq_eq_false_iff_ne.2 (hop 40 (by decide))
  have q42 : (op == 42) = false := beq_eq_false_iff_ne.2 (hop 42 (by decide))
  have q26 : (op == 26) = false := beq_eq_false_iff_ne.2 (hop 26 (by decide))
  have q37 : (op == 37) = false := beq_eq_false_iff_ne.2 (hop 37 (by decide))
  have q28 : (op == 28) = false := beq_eq_false_iff_ne.2 (hop 28 (by decide))
  have q29 : (op == 29) = false := beq_eq_false_iff_ne.2 (hop 29 (by decide))
  have q31 : (op == 31) = false := beq_eq_false_iff_ne.2 (hop 31 (by decide))
  have q32 : (op == 32) = false := beq_eq_false_iff_ne.2 (hop 32 (by decide))
  have q38 : (op == 38) = false := beq_eq_false_iff_ne.2 (hop 38 (by decide))
  have q22 : (op == 22) = false := beq_eq_false_iff_ne.2 (hop 22 (by decide))
  have q20 : (op == 20) = false := beq_eq_false_iff_ne.2 (hop 20 (by decide))
  have q21 : (op == 21) = false := beq_eq_false_iff_ne.2 (hop 21 (by decide))
  have q23 : (op == 23) = false := beq_eq_false_iff_ne.2 (hop 23 (by decide))
  have q24 : (op == 24) = false := beq_eq_false_iff_ne.2 (hop 24 (by decide))
  have q36 : (op == 36) = false := beq_eq_false_iff_ne.2 (hop 36 (by decide))
  have q41 : (op == 41) = false := beq_eq_false_iff_ne.2 (hop 41 (by decide))
  have s1 : 3 ≤ op := by omega
  have s2 : ¬ op ≤ 16 := by omega
  clear hop FI hs
  unfold agM agI
  go_enter Try.func17, Try.ntmps17
  go_wp2_with fail
  refine bodyPost_ret (by simp [results, Try.results17, go_sem]; try rfl) rfl ?_
  exact unhide K _ ((G.alloc _ _).more _)
end Go.Proofs.Ytpbeafgfhnlmbaa
