/- Reads and Writes of package live. -/
import Derived.Test.YtnliooflpclcbaaGreatDoorLiveFC
namespace Go.Proofs.YtnliooflpclcbaaGreatDoor
set_option maxRecDepth 100000
open Go.RowKit Go.Maps Go.ChangeShapes Go.WideShapes Go.ChangeAt Go.Deep

/-- What an instruction reads. -/
def rdP (m : Md) (i : In) : List Int :=
  if i.op ∈ ([1, 17, 27, 33, 35, 39] : List Int) then [i.b] else
  if i.op ∈ ([3, 4, 5, 6, 7, 8, 9, 10, 11, 12, 13, 14, 15, 16, 30] : List Int) then [i.b, i.c] else
  if i.op ∈ ([19, 40, 42] : List Int) then [i.a] else
  if i.op ∈ ([26, 37] : List Int) then [i.c] else
  if i.op ∈ ([28, 29] : List Int) then [i.a, i.c] else
  if i.op ∈ ([31, 32] : List Int) then [i.a, i.b, i.c] else
  if i.op ∈ ([38] : List Int) then [i.a, i.b] else
  if i.op = 22 then [i.a].filter (fun s => s != -1) else
  if i.op = 20 then runP i.c (fnP m i.b).p else
  if i.op = 21 then i.b :: runP i.c i.d else
  if i.op = 23 then runP i.b (fnP m i.a).p else
  if i.op = 24 then i.a :: runP i.b i.c else
  if i.op = 36 then runP i.c (fnP m i.b).c else
  if i.op = 41 then (casesP m i.a i.b).flatMap crP else []
/-- What it writes. -/
def wrOps : List Int := [0, 1, 2, 3, 4, 5, 6, 7, 8, 9, 10, 11, 12, 13, 14, 15, 16, 17, 25, 26, 27, 30, 33, 34, 36, 37]
def wrP (i : In) : List Int :=
  if i.op ∈ wrOps then [i.a] else
  if i.op ∈ ([20, 21] : List Int) then [i.a].filter (fun s => s != -1) else
  if i.op = 39 then [i.a, i.c].filter (fun s => s != -1) else []
/-- A list that is a literal. -/
theorem lto_new {w x : World} {l : List Int} (g : G w x) (vs : List Int) (e : l = vs) (h : vs.length ≤ 100) : LTo w l (.returned (.slice (some ⟨x.heap.size, 0, none⟩) vs.length vs.length)) (x.alloc (.cells (vs.map (Value.int .i64)).toArray 3)) := by
  subst e
  exact ⟨_, rfl, isl_new x l (by unfold maxLen; omega), g.more _⟩

set_option maxHeartbeats 1000000 in
theorem reads_1 (w : World) (m : Md) (so : Option Addr) (sc : Nat) (go : Option Addr) (gc : Nat) (co : Option Addr) (cc : Nat) (ao : Option Addr) (ac : Nat) (fo : Option Addr) (fc : Nat) (A B C D : Int) : Calls Tryz.prog 34 #[agM m so sc go gc co cc ao ac fo fc, agI ⟨1, A, B, C, D⟩] w (LTo w (rdP m ⟨1, A, B, C, D⟩)) := by
  have K := hide (lto_new (w := w) (x := ((w.alloc (.cells #[.slice so m.sh.length sc, .slice go m.gl.length gc, .slice co m.co.length cc, .slice ao m.ca.length ac, .slice fo m.fn.length fc, .int .i64 m.main] 33)).alloc (.cells #[.int .i64 1, .int .i64 A, .int .i64 B, .int .i64 C, .int .i64 D] 41))) (l := rdP m ⟨1, A, B, C, D⟩) ((G.alloc _ _).more _) [B] (by rfl) (by simp))
  unfold agM agI
  go_enter Tryz.func34, Tryz.ntmps34
  go_wp2_with fail
  refine bodyPost_ret (by simp [results, Tryz.results34, go_sem]; try rfl) rfl ?_
  have := unhide K
  simpa [World.size_alloc] using this
set_option maxHeartbeats 1000000 in
theorem reads_17 (w : World) (m : Md) (so : Option Addr) (sc : Nat) (go : Option Addr) (gc : Nat) (co : Option Addr) (cc : Nat) (ao : Option Addr) (ac : Nat) (fo : Option Addr) (fc : Nat) (A B C D : Int) : Calls Tryz.prog 34 #[agM m so sc go gc co cc ao ac fo fc, agI ⟨17, A, B, C, D⟩] w (LTo w (rdP m ⟨17, A, B, C, D⟩)) := by
  have K := hide (lto_new (w := w) (x := ((w.alloc (.cells #[.slice so m.sh.length sc, .slice go m.gl.length gc, .slice co m.co.length cc, .slice ao m.ca.length ac, .slice fo m.fn.length fc, .int .i64 m.main] 33)).alloc (.cells #[.int .i64 17, .int .i64 A, .int .i64 B, .int .i64 C, .int .i64 D] 41))) (l := rdP m ⟨17, A, B, C, D⟩) ((G.alloc _ _).more _) [B] (by rfl) (by simp))
  unfold agM agI
  go_enter Tryz.func34, Tryz.ntmps34
  go_wp2_with fail
  refine bodyPost_ret (by simp [results, Tryz.results34, go_sem]; try rfl) rfl ?_
  have := unhide K
  simpa [World.size_alloc] using this
set_option maxHeartbeats 1000000 in
theorem reads_27 (w : World) (m : Md) (so : Option Addr) (sc : Nat) (go : Option Addr) (gc : Nat) (co : Option Addr) (cc : Nat) (ao : Option Addr) (ac : Nat) (fo : Option Addr) (fc : Nat) (A B C D : Int) : Calls Tryz.prog 34 #[agM m so sc go gc co cc ao ac fo fc, agI ⟨27, A, B, C, D⟩] w (LTo w (rdP m ⟨27, A, B, C, D⟩)) := by
  have K := hide (lto_new (w := w) (x := ((w.alloc (.cells #[.slice so m.sh.length sc, .slice go m.gl.length gc, .slice co m.co.length cc, .slice ao m.ca.length ac, .slice fo m.fn.length fc, .int .i64 m.main] 33)).alloc (.cells #[.int .i64 27, .int .i64 A, .int .i64 B, .int .i64 C, .int .i64 D] 41))) (l := rdP m ⟨27, A, B, C, D⟩) ((G.alloc _ _).more _) [B] (by rfl) (by simp))
  unfold agM agI
  go_enter Tryz.func34, Tryz.ntmps34
  go_wp2_with fail
  refine bodyPost_ret (by simp [results, Tryz.results34, go_sem]; try rfl) rfl ?_
  have := unhide K
  simpa [World.size_alloc] using this
set_option maxHeartbeats 1000000 in
theorem reads_33 (w : World) (m : Md) (so : Option Addr) (sc : Nat) (go : Option Addr) (gc : Nat) (co : Option Addr) (cc : Nat) (ao : Option Addr) (ac : Nat) (fo : Option Addr) (fc : Nat) (A B C D : Int) : Calls Tryz.prog 34 #[agM m so sc go gc co cc ao ac fo fc, agI ⟨33, A, B, C, D⟩] w (LTo w (rdP m ⟨33, A, B, C, D⟩)) := by
  have K := hide (lto_new (w := w) (x := ((w.alloc (.cells #[.slice so m.sh.length sc, .slice go m.gl.length gc, .slice co m.co.length cc, .slice ao m.ca.length ac, .slice fo m.fn.length fc, .int .i64 m.main] 33)).alloc (.cells #[.int .i64 33, .int .i64 A, .int .i64 B, .int .i64 C, .int .i64 D] 41))) (l := rdP m ⟨33, A, B, C, D⟩) ((G.alloc _ _).more _) [B] (by rfl) (by simp))
  unfold agM agI
  go_enter Tryz.func34, Tryz.ntmps34
  go_wp2_with fail
  refine bodyPost_ret (by simp [results, Tryz.results34, go_sem]; try rfl) rfl ?_
  have := unhide K
  simpa [World.size_alloc] using this
set_option maxHeartbeats 1000000 in
theorem reads_35 (w : World) (m : Md) (so : Option Addr) (sc : Nat) (go : Option Addr) (gc : Nat) (co : Option Addr) (cc : Nat) (ao : Option Addr) (ac : Nat) (fo : Option Addr) (fc : Nat) (A B C D : Int) : Calls Tryz.prog 34 #[agM m so sc go gc co cc ao ac fo fc, agI ⟨35, A, B, C, D⟩] w (LTo w (rdP m ⟨35, A, B, C, D⟩)) := by
  have K := hide (lto_new (w := w) (x := ((w.alloc (.cells #[.slice so m.sh.length sc, .slice go m.gl.length gc, .slice co m.co.length cc, .slice ao m.ca.length ac, .slice fo m.fn.length fc, .int .i64 m.main] 33)).alloc (.cells #[.int .i64 35, .int .i64 A, .int .i64 B, .int .i64 C, .int .i64 D] 41))) (l := rdP m ⟨35, A, B, C, D⟩) ((G.alloc _ _).more _) [B] (by rfl) (by simp))
  unfold agM agI
  go_enter Tryz.func34, Tryz.ntmps34
  go_wp2_with fail
  refine bodyPost_ret (by simp [results, Tryz.results34, go_sem]; try rfl) rfl ?_
  have := unhide K
  simpa [World.size_alloc] using this
set_option maxHeartbeats 1000000 in
theorem reads_39 (w : World) (m : Md) (so : Option Addr) (sc : Nat) (go : Option Addr) (gc : Nat) (co : Option Addr) (cc : Nat) (ao : Option Addr) (ac : Nat) (fo : Option Addr) (fc : Nat) (A B C D : Int) : Calls Tryz.prog 34 #[agM m so sc go gc co cc ao ac fo fc, agI ⟨39, A, B, C, D⟩] w (LTo w (rdP m ⟨39, A, B, C, D⟩)) := by
  have K := hide (lto_new (w := w) (x := ((w.alloc (.cells #[.slice so m.sh.length sc, .slice go m.gl.length gc, .slice co m.co.length cc, .slice ao m.ca.length ac, .slice fo m.fn.length fc, .int .i64 m.main] 33)).alloc (.cells #[.int .i64 39, .int .i64 A, .int .i64 B, .int .i64 C, .int .i64 D] 41))) (l := rdP m ⟨39, A, B, C, D⟩) ((G.alloc _ _).more _) [B] (by rfl) (by simp))
  unfold agM agI
  go_enter Tryz.func34, Tryz.ntmps34
  go_wp2_with fail
  refine bodyPost_ret (by simp [results, Tryz.results34, go_sem]; try rfl) rfl ?_
  have := unhide K
  simpa [World.size_alloc] using this
set_option maxHeartbeats 1000000 in
theorem reads_3 (w : World) (m : Md) (so : Option Addr) (sc : Nat) (go : Option Addr) (gc : Nat) (co : Option Addr) (cc : Nat) (ao : Option Addr) (ac : Nat) (fo : Option Addr) (fc : Nat) (A B C D : Int) : Calls Tryz.prog 34 #[agM m so sc go gc co cc ao ac fo fc, agI ⟨3, A, B, C, D⟩] w (LTo w (rdP m ⟨3, A, B, C, D⟩)) := by
  have K := hide (lto_new (w := w) (x := ((w.alloc (.cells #[.slice so m.sh.length sc, .slice go m.gl.length gc, .slice co m.co.length cc, .slice ao m.ca.length ac, .slice fo m.fn.length fc, .int .i64 m.main] 33)).alloc (.cells #[.int .i64 3, .int .i64 A, .int .i64 B, .int .i64 C, .int .i64 D] 41))) (l := rdP m ⟨3, A, B, C, D⟩) ((G.alloc _ _).more _) [B, C] (by rfl) (by simp))
  unfold agM agI
  go_enter Tryz.func34, Tryz.ntmps34
  go_wp2_with fail
  refine bodyPost_ret (by simp [results, Tryz.results34, go_sem]; try rfl) rfl ?_
  have := unhide K
  simpa [World.size_alloc] using this
set_option maxHeartbeats 1000000 in
theorem reads_4 (w : World) (m : Md) (so : Option Addr) (sc : Nat) (go : Option Addr) (gc : Nat) (co : Option Addr) (cc : Nat) (ao : Option Addr) (ac : Nat) (fo : Option Addr) (fc : Nat) (A B C D : Int) : Calls Tryz.prog 34 #[agM m so sc go gc co cc ao ac fo fc, agI ⟨4, A, B, C, D⟩] w (LTo w (rdP m ⟨4, A, B, C, D⟩)) := by
  have K := hide (lto_new (w := w) (x := ((w.alloc (.cells #[.slice so m.sh.length sc, .slice go m.gl.length gc, .slice co m.co.length cc, .slice ao m.ca.length ac, .slice fo m.fn.length fc, .int .i64 m.main] 33)).alloc (.cells #[.int .i64 4, .int .i64 A, .int .i64 B, .int .i64 C, .int .i64 D] 41))) (l := rdP m ⟨4, A, B, C, D⟩) ((G.alloc _ _).more _) [B, C] (by rfl) (by simp))
  unfold agM agI
  go_enter Tryz.func34, Tryz.ntmps34
  go_wp2_with fail
  refine bodyPost_ret (by simp [results, Tryz.results34, go_sem]; try rfl) rfl ?_
  have := unhide K
  simpa [World.size_alloc] using this
set_option maxHeartbeats 1000000 in
theorem reads_5 (w : World) (m : Md) (so : Option Addr) (sc : Nat) (go : Option Addr) (gc : Nat) (co : Option Addr) (cc : Nat) (ao : Option Addr) (ac : Nat) (fo : Option Addr) (fc : Nat) (A B C D : Int) : Calls Tryz.prog 34 #[agM m so sc go gc co cc ao ac fo fc, agI ⟨5, A, B, C, D⟩] w (LTo w (rdP m ⟨5, A, B, C, D⟩)) := by
  have K := hide (lto_new (w := w) (x := ((w.alloc (.cells #[.slice so m.sh.length sc, .slice go m.gl.length gc, .slice co m.co.length cc, .slice ao m.ca.length ac, .slice fo m.fn.length fc, .int .i64 m.main] 33)).alloc (.cells #[.int .i64 5, .int .i64 A, .int .i64 B, .int .i64 C, .int .i64 D] 41))) (l := rdP m ⟨5, A, B, C, D⟩) ((G.alloc _ _).more _) [B, C] (by rfl) (by simp))
  unfold agM agI
  go_enter Tryz.func34, Tryz.ntmps34
  go_wp2_with fail
  refine bodyPost_ret (by simp [results, Tryz.results34, go_sem]; try rfl) rfl ?_
  have := unhide K
  simpa [World.size_alloc] using this
set_option maxHeartbeats 1000000 in
theorem reads_6 (w : World) (m : Md) (so : Option Addr) (sc : Nat) (go : Option Addr) (gc : Nat) (co : Option Addr) (cc : Nat) (ao : Option Addr) (ac : Nat) (fo : Option Addr) (fc : Nat) (A B C D : Int) : Calls Tryz.prog 34 #[agM m so sc go gc co cc ao ac fo fc, agI ⟨6, A, B, C, D⟩] w (LTo w (rdP m ⟨6, A, B, C, D⟩)) := by
  have K := hide (lto_new (w := w) (x := ((w.alloc (.cells #[.slice so m.sh.length sc, .slice go m.gl.length gc, .slice co m.co.length cc, .slice ao m.ca.length ac, .slice fo m.fn.length fc, .int .i64 m.main] 33)).alloc (.cells #[.int .i64 6, .int .i64 A, .int .i64 B, .int .i64 C, .int .i64 D] 41))) (l := rdP m ⟨6, A, B, C, D⟩) ((G.alloc _ _).more _) [B, C] (by rfl) (by simp))
  unfold agM agI
  go_enter Tryz.func34, Tryz.ntmps34
  go_wp2_with fail
  refine bodyPost_ret (by simp [results, Tryz.results34, go_sem]; try rfl) rfl ?_
  have := unhide K
  simpa [World.size_alloc] using this
set_option maxHeartbeats 1000000 in
theorem reads_7 (w : World) (m : Md) (so : Option Addr) (sc : Nat) (go : Option Addr) (gc : Nat) (co : Option Addr) (cc : Nat) (ao : Option Addr) (ac : Nat) (fo : Option Addr) (fc : Nat) (A B C D : Int) : Calls Tryz.prog 34 #[agM m so sc go gc co cc ao ac fo fc, agI ⟨7, A, B, C, D⟩] w (LTo w (rdP m ⟨7, A, B, C, D⟩)) := by
  have K := hide (lto_new (w := w) (x := ((w.alloc (.cells #[.slice so m.sh.length sc, .slice go m.gl.length gc, .slice co m.co.length cc, .slice ao m.ca.length ac, .slice fo m.fn.length fc, .int .i64 m.main] 33)).alloc (.cells #[.int .i64 7, .int .i64 A, .int .i64 B, .int .i64 C, .int .i64 D] 41))) (l := rdP m ⟨7, A, B, C, D⟩) ((G.alloc _ _).more _) [B, C] (by rfl) (by simp))
  unfold agM agI
  go_enter Tryz.func34, Tryz.ntmps34
  go_wp2_with fail
  refine bodyPost_ret (by simp [results, Tryz.results34, go_sem]; try rfl) rfl ?_
  have := unhide K
  simpa [World.size_alloc] using this
set_option maxHeartbeats 1000000 in
theorem reads_8 (w : World) (m : Md) (so : Option Addr) (sc : Nat) (go : Option Addr) (gc : Nat) (co : Option Addr) (cc : Nat) (ao : Option Addr) (ac : Nat) (fo : Option Addr) (fc : Nat) (A B C D : Int) : Calls Tryz.prog 34 #[agM m so sc go gc co cc ao ac fo fc, agI ⟨8, A, B, C, D⟩] w (LTo w (rdP m ⟨8, A, B, C, D⟩)) := by
  have K := hide (lto_new (w := w) (x := ((w.alloc (.cells #[.slice so m.sh.length sc, .slice go m.gl.length gc, .slice co m.co.length cc, .slice ao m.ca.length ac, .slice fo m.fn.length fc, .int .i64 m.main] 33)).alloc (.cells #[.int .i64 8, .int .i64 A, .int .i64 B, .int .i64 C, .int .i64 D] 41))) (l := rdP m ⟨8, A, B, C, D⟩) ((G.alloc _ _).more _) [B, C] (by rfl) (by simp))
  unfold agM agI
  go_enter Tryz.func34, Tryz.ntmps34
  go_wp2_with fail
  refine bodyPost_ret (by simp [results, Tryz.results34, go_sem]; try rfl) rfl ?_
  have := unhide K
  simpa [World.size_alloc] using this
set_option maxHeartbeats 1000000 in
theorem reads_9 (w : World) (m : Md) (so : Option Addr) (sc : Nat) (go : Option Addr) (gc : Nat) (co : Option Addr) (cc : Nat) (ao : Option Addr) (ac : Nat) (fo : Option Addr) (fc : Nat) (A B C D : Int) : Calls Tryz.prog 34 #[agM m so sc go gc co cc ao ac fo fc, agI ⟨9, A, B, C, D⟩] w (LTo w (rdP m ⟨9, A, B, C, D⟩)) := by
  have K := hide (lto_new (w := w) (x := ((w.alloc (.cells #[.slice so m.sh.length sc, .slice go m.gl.length gc, .slice co m.co.length cc, .slice ao m.ca.length ac, .slice fo m.fn.length fc, .int .i64 m.main] 33)).alloc (.cells #[.int .i64 9, .int .i64 A, .int .i64 B, .int .i64 C, .int .i64 D] 41))) (l := rdP m ⟨9, A, B, C, D⟩) ((G.alloc _ _).more _) [B, C] (by rfl) (by simp))
  unfold agM agI
  go_enter Tryz.func34, Tryz.ntmps34
  go_wp2_with fail
  refine bodyPost_ret (by simp [results, Tryz.results34, go_sem]; try rfl) rfl ?_
  have := unhide K
  simpa [World.size_alloc] using this
set_option maxHeartbeats 1000000 in
theorem reads_10 (w : World) (m : Md) (so : Option Addr) (sc : Nat) (go : Option Addr) (gc : Nat) (co : Option Addr) (cc : Nat) (ao : Option Addr) (ac : Nat) (fo : Option Addr) (fc : Nat) (A B C D : Int) : Calls Tryz.prog 34 #[agM m so sc go gc co cc ao ac fo fc, agI ⟨10, A, B, C, D⟩] w (LTo w (rdP m ⟨10, A, B, C, D⟩)) := by
  have K := hide (lto_new (w := w) (x := ((w.alloc (.cells #[.slice so m.sh.length sc, .slice go m.gl.length gc, .slice co m.co.length cc, .slice ao m.ca.length ac, .slice fo m.fn.length fc, .int .i64 m.main] 33)).alloc (.cells #[.int .i64 10, .int .i64 A, .int .i64 B, .int .i64 C, .int .i64 D] 41))) (l := rdP m ⟨10, A, B, C, D⟩) ((G.alloc _ _).more _) [B, C] (by rfl) (by simp))
  unfold agM agI
  go_enter Tryz.func34, Tryz.ntmps34
  go_wp2_with fail
  refine bodyPost_ret (by simp [results, Tryz.results34, go_sem]; try rfl) rfl ?_
  have := unhide K
  simpa [World.size_alloc] using this
set_option maxHeartbeats 1000000 in
theorem reads_11 (w : World) (m : Md) (so : Option Addr) (sc : Nat) (go : Option Addr) (gc : Nat) (co : Option Addr) (cc : Nat) (ao : Option Addr) (ac : Nat) (fo : Option Addr) (fc : Nat) (A B C D : Int) : Calls Tryz.prog 34 #[agM m so sc go gc co cc ao ac fo fc, agI ⟨11, A, B, C, D⟩] w (LTo w (rdP m ⟨11, A, B, C, D⟩)) := by
  have K := hide (lto_new (w := w) (x := ((w.alloc (.cells #[.slice so m.sh.length sc, .slice go m.gl.length gc, .slice co m.co.length cc, .slice ao m.ca.length ac, .slice fo m.fn.length fc, .int .i64 m.main] 33)).alloc (.cells #[.int .i64 11, .int .i64 A, .int .i64 B, .int .i64 C, .int .i64 D] 41))) (l := rdP m ⟨11, A, B, C, D⟩) ((G.alloc _ _).more _) [B, C] (by rfl) (by simp))
  unfold agM agI
  go_enter Tryz.func34, Tryz.ntmps34
  go_wp2_with fail
  refine bodyPost_ret (by simp [results, Tryz.results34, go_sem]; try rfl) rfl ?_
  have := unhide K
  simpa [World.size_alloc] using this
set_option maxHeartbeats 1000000 in
theorem reads_12 (w : World) (m : Md) (so : Option Addr) (sc : Nat) (go : Option Addr) (gc : Nat) (co : Option Addr) (cc : Nat) (ao : Option Addr) (ac : Nat) (fo : Option Addr) (fc : Nat) (A B C D : Int) : Calls Tryz.prog 34 #[agM m so sc go gc co cc ao ac fo fc, agI ⟨12, A, B, C, D⟩] w (LTo w (rdP m ⟨12, A, B, C, D⟩)) := by
  have K := hide (lto_new (w := w) (x := ((w.alloc (.cells #[.slice so m.sh.length sc, .slice go m.gl.length gc, .slice co m.co.length cc, .slice ao m.ca.length ac, .slice fo m.fn.length fc, .int .i64 m.main] 33)).alloc (.cells #[.int .i64 12, .int .i64 A, .int .i64 B, .int .i64 C, .int .i64 D] 41))) (l := rdP m ⟨12, A, B, C, D⟩) ((G.alloc _ _).more _) [B, C] (by rfl) (by simp))
  unfold agM agI
  go_enter Tryz.func34, Tryz.ntmps34
  go_wp2_with fail
  refine bodyPost_ret (by simp [results, Tryz.results34, go_sem]; try rfl) rfl ?_
  have := unhide K
  simpa [World.size_alloc] using this
set_option maxHeartbeats 1000000 in
theorem reads_13 (w : World) (m : Md) (so : Option Addr) (sc : Nat) (go : Option Addr) (gc : Nat) (co : Option Addr) (cc : Nat) (ao : Option Addr) (ac : Nat) (fo : Option Addr) (fc : Nat) (A B C D : Int) : Calls Tryz.prog 34 #[agM m so sc go gc co cc ao ac fo fc, agI ⟨13, A, B, C, D⟩] w (LTo w (rdP m ⟨13, A, B, C, D⟩)) := by
  have K := hide (lto_new (w := w) (x := ((w.alloc (.cells #[.slice so m.sh.length sc, .slice go m.gl.length gc, .slice co m.co.length cc, .slice ao m.ca.length ac, .slice fo m.fn.length fc, .int .i64 m.main] 33)).alloc (.cells #[.int .i64 13, .int .i64 A, .int .i64 B, .int .i64 C, .int .i64 D] 41))) (l := rdP m ⟨13, A, B, C, D⟩) ((G.alloc _ _).more _) [B, C] (by rfl) (by simp))
  unfold agM agI
  go_enter Tryz.func34, Tryz.ntmps34
  go_wp2_with fail
  refine bodyPost_ret (by simp [results, Tryz.results34, go_sem]; try rfl) rfl ?_
  have := unhide K
  simpa [World.size_alloc] using this
set_option maxHeartbeats 1000000 in
theorem reads_14 (w : World) (m : Md) (so : Option Addr) (sc : Nat) (go : Option Addr) (gc : Nat) (co : Option Addr) (cc : Nat) (ao : Option Addr) (ac : Nat) (fo : Option Addr) (fc : Nat) (A B C D : Int) : Calls Tryz.prog 34 #[agM m so sc go gc co cc ao ac fo fc, agI ⟨14, A, B, C, D⟩] w (LTo w (rdP m ⟨14, A, B, C, D⟩)) := by
  have K := hide (lto_new (w := w) (x := ((w.alloc (.cells #[.slice so m.sh.length sc, .slice go m.gl.length gc, .slice co m.co.length cc, .slice ao m.ca.length ac, .slice fo m.fn.length fc, .int .i64 m.main] 33)).alloc (.cells #[.int .i64 14, .int .i64 A, .int .i64 B, .int .i64 C, .int .i64 D] 41))) (l := rdP m ⟨14, A, B, C, D⟩) ((G.alloc _ _).more _) [B, C] (by rfl) (by simp))
  unfold agM agI
  go_enter Tryz.func34, Tryz.ntmps34
  go_wp2_with fail
  refine bodyPost_ret (by simp [results, Tryz.results34, go_sem]; try rfl) rfl ?_
  have := unhide K
  simpa [World.size_alloc] using this
set_option maxHeartbeats 1000000 in
theorem reads_15 (w : World) (m : Md) (so : Option Addr) (sc : Nat) (go : Option Addr) (gc : Nat) (co : Option Addr) (cc : Nat) (ao : Option Addr) (ac : Nat) (fo : Option Addr) (fc : Nat) (A B C D : Int) : Calls Tryz.prog 34 #[agM m so sc go gc co cc ao ac fo fc, agI ⟨15, A, B, C, D⟩] w (LTo w (rdP m ⟨15, A, B, C, D⟩)) := by
  have K := hide (lto_new (w := w) (x := ((w.alloc (.cells #[.slice so m.sh.length sc, .slice go m.gl.length gc, .slice co m.co.length cc, .slice ao m.ca.length ac, .slice fo m.fn.length fc, .int .i64 m.main] 33)).alloc (.cells #[.int .i64 15, .int .i64 A, .int .i64 B, .int .i64 C, .int .i64 D] 41))) (l := rdP m ⟨15, A, B, C, D⟩) ((G.alloc _ _).more _) [B, C] (by rfl) (by simp))
  unfold agM agI
  go_enter Tryz.func34, Tryz.ntmps34
  go_wp2_with fail
  refine bodyPost_ret (by simp [results, Tryz.results34, go_sem]; try rfl) rfl ?_
  have := unhide K
  simpa [World.size_alloc] using this
set_option maxHeartbeats 1000000 in
theorem reads_16 (w : World) (m : Md) (so : Option Addr) (sc : Nat) (go : Option Addr) (gc : Nat) (co : Option Addr) (cc : Nat) (ao : Option Addr) (ac : Nat) (fo : Option Addr) (fc : Nat) (A B C D : Int) : Calls Tryz.prog 34 #[agM m so sc go gc co cc ao ac fo fc, agI ⟨16, A, B, C, D⟩] w (LTo w (rdP m ⟨16, A, B, C, D⟩)) := by
  have K := hide (lto_new (w := w) (x := ((w.alloc (.cells #[.slice so m.sh.length sc, .slice go m.gl.length gc, .slice co m.co.length cc, .slice ao m.ca.length ac, .slice fo m.fn.length fc, .int .i64 m.main] 33)).alloc (.cells #[.int .i64 16, .int .i64 A, .int .i64 B, .int .i64 C, .int .i64 D] 41))) (l := rdP m ⟨16, A, B, C, D⟩) ((G.alloc _ _).more _) [B, C] (by rfl) (by simp))
  unfold agM agI
  go_enter Tryz.func34, Tryz.ntmps34
  go_wp2_with fail
  refine bodyPost_ret (by simp [results, Tryz.results34, go_sem]; try rfl) rfl ?_
  have := unhide K
  simpa [World.size_alloc] using this
set_option maxHeartbeats 1000000 in
theorem reads_30 (w : World) (m : Md) (so : Option Addr) (sc : Nat) (go : Option Addr) (gc : Nat) (co : Option Addr) (cc : Nat) (ao : Option Addr) (ac : Nat) (fo : Option Addr) (fc : Nat) (A B C D : Int) : Calls Tryz.prog 34 #[agM m so sc go gc co cc ao ac fo fc, agI ⟨30, A, B, C, D⟩] w (LTo w (rdP m ⟨30, A, B, C, D⟩)) := by
  have K := hide (lto_new (w := w) (x := ((w.alloc (.cells #[.slice so m.sh.length sc, .slice go m.gl.length gc, .slice co m.co.length cc, .slice ao m.ca.length ac, .slice fo m.fn.length fc, .int .i64 m.main] 33)).alloc (.cells #[.int .i64 30, .int .i64 A, .int .i64 B, .int .i64 C, .int .i64 D] 41))) (l := rdP m ⟨30, A, B, C, D⟩) ((G.alloc _ _).more _) [B, C] (by rfl) (by simp))
  unfold agM agI
  go_enter Tryz.func34, Tryz.ntmps34
  go_wp2_with fail
  refine bodyPost_ret (by simp [results, Tryz.results34, go_sem]; try rfl) rfl ?_
  have := unhide K
  simpa [World.size_alloc] using this
set_option maxHeartbeats 1000000 in
theorem reads_19 (w : World) (m : Md) (so : Option Addr) (sc : Nat) (go : Option Addr) (gc : Nat) (co : Option Addr) (cc : Nat) (ao : Option Addr) (ac : Nat) (fo : Option Addr) (fc : Nat) (A B C D : Int) : Calls Tryz.prog 34 #[agM m so sc go gc co cc ao ac fo fc, agI ⟨19, A, B, C, D⟩] w (LTo w (rdP m ⟨19, A, B, C, D⟩)) := by
  have K := hide (lto_new (w := w) (x := ((w.alloc (.cells #[.slice so m.sh.length sc, .slice go m.gl.length gc, .slice co m.co.length cc, .slice ao m.ca.length ac, .slice fo m.fn.length fc, .int .i64 m.main] 33)).alloc (.cells #[.int .i64 19, .int .i64 A, .int .i64 B, .int .i64 C, .int .i64 D] 41))) (l := rdP m ⟨19, A, B, C, D⟩) ((G.alloc _ _).more _) [A] (by rfl) (by simp))
  unfold agM agI
  go_enter Tryz.func34, Tryz.ntmps34
  go_wp2_with fail
  refine bodyPost_ret (by simp [results, Tryz.results34, go_sem]; try rfl) rfl ?_
  have := unhide K
  simpa [World.size_alloc] using this
set_option maxHeartbeats 1000000 in
theorem reads_40 (w : World) (m : Md) (so : Option Addr) (sc : Nat) (go : Option Addr) (gc : Nat) (co : Option Addr) (cc : Nat) (ao : Option Addr) (ac : Nat) (fo : Option Addr) (fc : Nat) (A B C D : Int) : Calls Tryz.prog 34 #[agM m so sc go gc co cc ao ac fo fc, agI ⟨40, A, B, C, D⟩] w (LTo w (rdP m ⟨40, A, B, C, D⟩)) := by
  have K := hide (lto_new (w := w) (x := ((w.alloc (.cells #[.slice so m.sh.length sc, .slice go m.gl.length gc, .slice co m.co.length cc, .slice ao m.ca.length ac, .slice fo m.fn.length fc, .int .i64 m.main] 33)).alloc (.cells #[.int .i64 40, .int .i64 A, .int .i64 B, .int .i64 C, .int .i64 D] 41))) (l := rdP m ⟨40, A, B, C, D⟩) ((G.alloc _ _).more _) [A] (by rfl) (by simp))
  unfold agM agI
  go_enter Tryz.func34, Tryz.ntmps34
  go_wp2_with fail
  refine bodyPost_ret (by simp [results, Tryz.results34, go_sem]; try rfl) rfl ?_
  have := unhide K
  simpa [World.size_alloc] using this
set_option maxHeartbeats 1000000 in
theorem reads_42 (w : World) (m : Md) (so : Option Addr) (sc : Nat) (go : Option Addr) (gc : Nat) (co : Option Addr) (cc : Nat) (ao : Option Addr) (ac : Nat) (fo : Option Addr) (fc : Nat) (A B C D : Int) : Calls Tryz.prog 34 #[agM m so sc go gc co cc ao ac fo fc, agI ⟨42, A, B, C, D⟩] w (LTo w (rdP m ⟨42, A, B, C, D⟩)) := by
  have K := hide (lto_new (w := w) (x := ((w.alloc (.cells #[.slice so m.sh.length sc, .slice go m.gl.length gc, .slice co m.co.length cc, .slice ao m.ca.length ac, .slice fo m.fn.length fc, .int .i64 m.main] 33)).alloc (.cells #[.int .i64 42, .int .i64 A, .int .i64 B, .int .i64 C, .int .i64 D] 41))) (l := rdP m ⟨42, A, B, C, D⟩) ((G.alloc _ _).more _) [A] (by rfl) (by simp))
  unfold agM agI
  go_enter Tryz.func34, Tryz.ntmps34
  go_wp2_with fail
  refine bodyPost_ret (by simp [results, Tryz.results34, go_sem]; try rfl) rfl ?_
  have := unhide K
  simpa [World.size_alloc] using this
set_option maxHeartbeats 1000000 in
theorem reads_26 (w : World) (m : Md) (so : Option Addr) (sc : Nat) (go : Option Addr) (gc : Nat) (co : Option Addr) (cc : Nat) (ao : Option Addr) (ac : Nat) (fo : Option Addr) (fc : Nat) (A B C D : Int) : Calls Tryz.prog 34 #[agM m so sc go gc co cc ao ac fo fc, agI ⟨26, A, B, C, D⟩] w (LTo w (rdP m ⟨26, A, B, C, D⟩)) := by
  have K := hide (lto_new (w := w) (x := ((w.alloc (.cells #[.slice so m.sh.length sc, .slice go m.gl.length gc, .slice co m.co.length cc, .slice ao m.ca.length ac, .slice fo m.fn.length fc, .int .i64 m.main] 33)).alloc (.cells #[.int .i64 26, .int .i64 A, .int .i64 B, .int .i64 C, .int .i64 D] 41))) (l := rdP m ⟨26, A, B, C, D⟩) ((G.alloc _ _).more _) [C] (by rfl) (by simp))
  unfold agM agI
  go_enter Tryz.func34, Tryz.ntmps34
  go_wp2_with fail
  refine bodyPost_ret (by simp [results, Tryz.results34, go_sem]; try rfl) rfl ?_
  have := unhide K
  simpa [World.size_alloc] using this
set_option maxHeartbeats 1000000 in
theorem reads_37 (w : World) (m : Md) (so : Option Addr) (sc : Nat) (go : Option Addr) (gc : Nat) (co : Option Addr) (cc : Nat) (ao : Option Addr) (ac : Nat) (fo : Option Addr) (fc : Nat) (A B C D : Int) : Calls Tryz.prog 34 #[agM m so sc go gc co cc ao ac fo fc, agI ⟨37, A, B, C, D⟩] w (LTo w (rdP m ⟨37, A, B, C, D⟩)) := by
  have K := hide (lto_new (w := w) (x := ((w.alloc (.cells #[.slice so m.sh.length sc, .slice go m.gl.length gc, .slice co m.co.length cc, .slice ao m.ca.length ac, .slice fo m.fn.length fc, .int .i64 m.main] 33)).alloc (.cells #[.int .i64 37, .int .i64 A, .int .i64 B, .int .i64 C, .int .i64 D] 41))) (l := rdP m ⟨37, A, B, C, D⟩) ((G.alloc _ _).more _) [C] (by rfl) (by simp))
  unfold agM agI
  go_enter Tryz.func34, Tryz.ntmps34
  go_wp2_with fail
  refine bodyPost_ret (by simp [results, Tryz.results34, go_sem]; try rfl) rfl ?_
  have := unhide K
  simpa [World.size_alloc] using this
set_option maxHeartbeats 1000000 in
theorem reads_28 (w : World) (m : Md) (so : Option Addr) (sc : Nat) (go : Option Addr) (gc : Nat) (co : Option Addr) (cc : Nat) (ao : Option Addr) (ac : Nat) (fo : Option Addr) (fc : Nat) (A B C D : Int) : Calls Tryz.prog 34 #[agM m so sc go gc co cc ao ac fo fc, agI ⟨28, A, B, C, D⟩] w (LTo w (rdP m ⟨28, A, B, C, D⟩)) := by
  have K := hide (lto_new (w := w) (x := ((w.alloc (.cells #[.slice so m.sh.length sc, .slice go m.gl.length gc, .slice co m.co.length cc, .slice ao m.ca.length ac, .slice fo m.fn.length fc, .int .i64 m.main] 33)).alloc (.cells #[.int .i64 28, .int .i64 A, .int .i64 B, .int .i64 C, .int .i64 D] 41))) (l := rdP m ⟨28, A, B, C, D⟩) ((G.alloc _ _).more _) [A, C] (by rfl) (by simp))
  unfold agM agI
  go_enter Tryz.func34, Tryz.ntmps34
  go_wp2_with fail
  refine bodyPost_ret (by simp [results, Tryz.results34, go_sem]; try rfl) rfl ?_
  have := unhide K
  simpa [World.size_alloc] using this
set_option maxHeartbeats 1000000 in
theorem reads_29 (w : World) (m : Md) (so : Option Addr) (sc : Nat) (go : Option Addr) (gc : Nat) (co : Option Addr) (cc : Nat) (ao : Option Addr) (ac : Nat) (fo : Option Addr) (fc : Nat) (A B C D : Int) : Calls Tryz.prog 34 #[agM m so sc go gc co cc ao ac fo fc, agI ⟨29, A, B, C, D⟩] w (LTo w (rdP m ⟨29, A, B, C, D⟩)) := by
  have K := hide (lto_new (w := w) (x := ((w.alloc (.cells #[.slice so m.sh.length sc, .slice go m.gl.length gc, .slice co m.co.length cc, .slice ao m.ca.length ac, .slice fo m.fn.length fc, .int .i64 m.main] 33)).alloc (.cells #[.int .i64 29, .int .i64 A, .int .i64 B, .int .i64 C, .int .i64 D] 41))) (l := rdP m ⟨29, A, B, C, D⟩) ((G.alloc _ _).more _) [A, C] (by rfl) (by simp))
  unfold agM agI
  go_enter Tryz.func34, Tryz.ntmps34
  go_wp2_with fail
  refine bodyPost_ret (by simp [results, Tryz.results34, go_sem]; try rfl) rfl ?_
  have := unhide K
  simpa [World.size_alloc] using this
set_option maxHeartbeats 1000000 in
theorem reads_31 (w : World) (m : Md) (so : Option Addr) (sc : Nat) (go : Option Addr) (gc : Nat) (co : Option Addr) (cc : Nat) (ao : Option Addr) (ac : Nat) (fo : Option Addr) (fc : Nat) (A B C D : Int) : Calls Tryz.prog 34 #[agM m so sc go gc co cc ao ac fo fc, agI ⟨31, A, B, C, D⟩] w (LTo w (rdP m ⟨31, A, B, C, D⟩)) := by
  have K := hide (lto_new (w := w) (x := ((w.alloc (.cells #[.slice so m.sh.length sc, .slice go m.gl.length gc, .slice co m.co.length cc, .slice ao m.ca.length ac, .slice fo m.fn.length fc, .int .i64 m.main] 33)).alloc (.cells #[.int .i64 31, .int .i64 A, .int .i64 B, .int .i64 C, .int .i64 D] 41))) (l := rdP m ⟨31, A, B, C, D⟩) ((G.alloc _ _).more _) [A, B, C] (by rfl) (by simp))
  unfold agM agI
  go_enter Tryz.func34, Tryz.ntmps34
  go_wp2_with fail
  refine bodyPost_ret (by simp [results, Tryz.results34, go_sem]; try rfl) rfl ?_
  have := unhide K
  simpa [World.size_alloc] using this
set_option maxHeartbeats 1000000 in
theorem reads_32 (w : World) (m : Md) (so : Option Addr) (sc : Nat) (go : Option Addr) (gc : Nat) (co : Option Addr) (cc : Nat) (ao : Option Addr) (ac : Nat) (fo : Option Addr) (fc : Nat) (A B C D : Int) : Calls Tryz.prog 34 #[agM m so sc go gc co cc ao ac fo fc, agI ⟨32, A, B, C, D⟩] w (LTo w (rdP m ⟨32, A, B, C, D⟩)) := by
  have K := hide (lto_new (w := w) (x := ((w.alloc (.cells #[.slice so m.sh.length sc, .slice go m.gl.length gc, .slice co m.co.length cc, .slice ao m.ca.length ac, .slice fo m.fn.length fc, .int .i64 m.main] 33)).alloc (.cells #[.int .i64 32, .int .i64 A, .int .i64 B, .int .i64 C, .int .i64 D] 41))) (l := rdP m ⟨32, A, B, C, D⟩) ((G.alloc _ _).more _) [A, B, C] (by rfl) (by simp))
  unfold agM agI
  go_enter Tryz.func34, Tryz.ntmps34
  go_wp2_with fail
  refine bodyPost_ret (by simp [results, Tryz.results34, go_sem]; try rfl) rfl ?_
  have := unhide K
  simpa [World.size_alloc] using this
set_option maxHeartbeats 1000000 in
theorem reads_38 (w : World) (m : Md) (so : Option Addr) (sc : Nat) (go : Option Addr) (gc : Nat) (co : Option Addr) (cc : Nat) (ao : Option Addr) (ac : Nat) (fo : Option Addr) (fc : Nat) (A B C D : Int) : Calls Tryz.prog 34 #[agM m so sc go gc co cc ao ac fo fc, agI ⟨38, A, B, C, D⟩] w (LTo w (rdP m ⟨38, A, B, C, D⟩)) := by
  have K := hide (lto_new (w := w) (x := ((w.alloc (.cells #[.slice so m.sh.length sc, .slice go m.gl.length gc, .slice co m.co.length cc, .slice ao m.ca.length ac, .slice fo m.fn.length fc, .int .i64 m.main] 33)).alloc (.cells #[.int .i64 38, .int .i64 A, .int .i64 B, .int .i64 C, .int .i64 D] 41))) (l := rdP m ⟨38, A, B, C, D⟩) ((G.alloc _ _).more _) [A, B] (by rfl) (by simp))
  unfold agM agI
  go_enter Tryz.func34, Tryz.ntmps34
  go_wp2_with fail
  refine bodyPost_ret (by simp [results, Tryz.results34, go_sem]; try rfl) rfl ?_
  have := unhide K
  simpa [World.size_alloc] using this
end Go.Proofs.YtnliooflpclcbaaGreatDoor
