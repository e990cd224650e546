/- small() of gantlinelaw9. -/
import Derived.Test.YtdekhnfncecacaaDoorCodeDec2
import Derived.Test.YtdekhnfncecacaaDoorCodeSame
namespace Go.Proofs.YtdekhnfncecacaaDoor
set_option maxRecDepth 100000
open Go.RowKit Go.Maps Go.ChangeShapes Go.WideShapes Go.ChangeAt Go.Deep

/-- New blocks, one behind the other. -/
def alls : World → List Obj → World
  | w, [] => w
  | w, o :: os => alls (w.alloc o) os
theorem alls_keep : ∀ (os : List Obj) (w : World) (k : Nat), k < w.heap.size → (alls w os).heap[k]? = w.heap[k]?
  | [], _, _, _ => rfl
  | o :: os, w, k, h => (alls_keep os (w.alloc o) k (by rw [World.size_alloc]; omega)).trans (Below.heap_alloc w o k h)
theorem alls_heap : ∀ (os : List Obj) (w : World) (i : Nat) (o : Obj), os[i]? = some o → (alls w os).heap[w.heap.size + i]? = some o
  | [], _, i, o, h => by simp at h
  | x :: os, w, 0, o, h => by
    simp at h
    subst h
    exact (alls_keep os (w.alloc x) _ (by rw [World.size_alloc]; omega)).trans (heap_alloc_new w x)
  | x :: os, w, i + 1, o, h => by
    have := alls_heap os (w.alloc x) i o (by simpa using h)
    rw [World.size_alloc] at this
    rw [show w.heap.size + (i + 1) = w.heap.size + 1 + i by omega]
    exact this
theorem alls_g : ∀ (os : List Obj) (w : World), G w (alls w os)
  | [], w => G.refl w
  | o :: os, w => (G.alloc w o).trans (alls_g os (w.alloc o))

theorem flat_get {α : Type} (f : α → List Value) (sz : Nat) : ∀ (l : List α) (i : Nat) (a : α) (j : Nat) (v : Value), (∀ b ∈ l, (f b).length = sz) → l[i]? = some a → (f a)[j]? = some v → (l.flatMap f)[i * sz + j]? = some v
  | [], i, a, j, v, _, h, _ => by simp at h
  | x :: l, 0, a, j, v, hs, h, hj => by
    simp at h
    subst h
    rw [List.flatMap_cons, Nat.zero_mul, Nat.zero_add, List.getElem?_append_left (List.getElem?_eq_some_iff.1 hj).1]
    exact hj
  | x :: l, i + 1, a, j, v, hs, h, hj => by
    have := flat_get f sz l i a j v (fun b hb => hs b (by simp [hb])) (by simpa using h) hj
    have hx := hs x (by simp)
    rw [List.flatMap_cons, List.getElem?_append_right (by rw [hx, Nat.add_mul]; omega), hx]
    rw [show (i + 1) * sz + j - sz = i * sz + j by rw [Nat.add_mul]; omega]
    exact this
/-- A block that holds just these things. -/
theorem row_flat {α : Type} {E : El α} (eok : E.Ok) (f : α → List Value) {w : World} {b : Nat} {t : TypeId} {fr : Nat × Nat} (l : List α) (hb : w.heap[b]? = some (.cells (l.flatMap f).toArray t fr)) (hf : ∀ a ∈ l, E.cs w a (f a)) (hl : l.length ≤ 1000) : RowAt E w (some ⟨b, 0, none⟩) l.length l.length l := by
  refine ⟨rfl, by unfold maxLen; omega, (fun e => by cases e), Or.inr ⟨b, 0, rfl, (Array.getElem?_eq_some_iff.1 hb).1, fun i a hi => ⟨f a, hf a (List.mem_of_getElem? hi), fun j v hj => ?_⟩⟩⟩
  rw [Nat.zero_add, cell_of_row _ _ _ _ _ _ hb]
  have := flat_get f E.sz l i a j v (fun c hc => eok.len _ _ _ (hf c hc)) hi hj
  simpa using this

def smallMd : Md := ⟨[⟨0, 1, 1⟩], [true], [-5], [⟨2, 0, -1, 1⟩], [⟨0, 0, 1, 0, [false], [⟨0, 0, 0, 0, 0⟩, ⟨42, 0, 0, 0, 0⟩, ⟨22, -1, 0, 0, 0⟩], [0, 0, 0]⟩], 0⟩
def smallOs (n : Nat) : List Obj := [.cells #[.slice (some ⟨n + 1 + 1, 0, none⟩) 1 1, .slice (some ⟨n + 1 + 1 + 1, 0, none⟩) 1 1, .slice (some ⟨n + 1, 0, none⟩) 1 1, .slice (some ⟨n + 1 + 1 + 1 + 1, 0, none⟩) 1 1, .slice (some ⟨n + 1 + 1 + 1 + 1 + 1 + 1 + 1 + 1, 0, none⟩) 1 1, .int .i64 0] 28,
  .cells #[.int .i64 (-5)] 2, .cells #[.int .i64 0, .int .i64 1, .int .u64 1] 64, .cells #[.bool true] 4, .cells #[.int .i64 2, .int .i64 0, .int .i64 (-1), .int .i64 1] 75, .cells #[.bool false] 4,
  .cells #[.int .i64 0, .int .i64 0, .int .i64 0, .int .i64 0, .int .i64 0, .int .i64 42, .int .i64 0, .int .i64 0, .int .i64 0, .int .i64 0, .int .i64 22, .int .i64 (-1), .int .i64 0, .int .i64 0, .int .i64 0] 51,
  .cells #[.int .u64 0, .int .u64 0, .int .u64 0] 62, .cells #[.int .i64 0, .int .i64 0, .int .i64 1, .int .i64 0, .slice (some ⟨n + 1 + 1 + 1 + 1 + 1, 0, none⟩) 1 1, .slice (some ⟨n + 1 + 1 + 1 + 1 + 1 + 1, 0, none⟩) 3 3, .slice (some ⟨n + 1 + 1 + 1 + 1 + 1 + 1 + 1, 0, none⟩) 3 3] 57]
theorem small_at (w : World) : ModAt (alls w (smallOs w.heap.size)) (.agg #[.slice (some ⟨w.heap.size + 1 + 1, 0, none⟩) 1 1, .slice (some ⟨w.heap.size + 1 + 1 + 1, 0, none⟩) 1 1, .slice (some ⟨w.heap.size + 1, 0, none⟩) 1 1, .slice (some ⟨w.heap.size + 1 + 1 + 1 + 1, 0, none⟩) 1 1, .slice (some ⟨w.heap.size + 1 + 1 + 1 + 1 + 1 + 1 + 1 + 1, 0, none⟩) 1 1, .int .i64 0]) smallMd := by
  have H := fun i o h => alls_heap (smallOs w.heap.size) w i o h
  refine ⟨_, 1, _, 1, _, 1, _, 1, _, 1, rfl, ?_, ?_, ?_, ?_, ?_⟩
  · exact row_flat okSp (fun s => [.int .i64 s.k, .int .i64 s.f, .int .u64 (s.m : Int)]) [⟨0, 1, 1⟩] (H 2 _ rfl) (fun _ _ => rfl) (by decide)
  · exact row_flat okB (fun s => [.bool s]) [true] (H 3 _ rfl) (fun _ _ => rfl) (by decide)
  · exact row_flat okI (fun s => [.int .i64 s]) [-5] (H 1 _ rfl) (fun _ _ => rfl) (by decide)
  · exact row_flat okCa (fun s => [.int .i64 s.k, .int .i64 s.c, .int .i64 s.v, .int .i64 s.t]) [⟨2, 0, -1, 1⟩] (H 4 _ rfl) (fun _ _ => rfl) (by decide)
  · refine row_flat okFn (fun s => [.int .i64 s.p, .int .i64 s.c, .int .i64 s.s, .int .i64 s.r, .slice (some ⟨w.heap.size + 1 + 1 + 1 + 1 + 1, 0, none⟩) 1 1, .slice (some ⟨w.heap.size + 1 + 1 + 1 + 1 + 1 + 1, 0, none⟩) 3 3, .slice (some ⟨w.heap.size + 1 + 1 + 1 + 1 + 1 + 1 + 1, 0, none⟩) 3 3]) [⟨0, 0, 1, 0, [false], [⟨0, 0, 0, 0, 0⟩, ⟨42, 0, 0, 0, 0⟩, ⟨22, -1, 0, 0, 0⟩], [0, 0, 0]⟩] (H 8 _ rfl) (fun a ha => ?_) (by decide)
    simp at ha
    subst ha
    refine ⟨_, 1, _, 3, _, 3, rfl, ?_, ?_, ?_⟩
    · exact row_flat okB (fun s => [.bool s]) [false] (H 5 _ rfl) (fun _ _ => rfl) (by decide)
    · exact row_flat okIn (fun s => [.int .i64 s.op, .int .i64 s.a, .int .i64 s.b, .int .i64 s.c, .int .i64 s.d]) [⟨0, 0, 0, 0, 0⟩, ⟨42, 0, 0, 0, 0⟩, ⟨22, -1, 0, 0, 0⟩] (H 6 _ rfl) (fun _ _ => rfl) (by decide)
    · exact row_flat okU (fun s => [.int .u64 (s : Int)]) [0, 0, 0] (H 7 _ rfl) (fun _ _ => rfl) (by decide)

set_option maxHeartbeats 1000000 in
theorem small_any (w : World) : Calls Tryd.prog 14 #[] w fun e w' => ∃ v, e = .returned v ∧ ModAt w' v smallMd ∧ G w w' := by
  have F := hide (small_at w)
  have HG := hide (alls_g (smallOs w.heap.size) w)
  go_enter Tryd.func14, Tryd.ntmps14
  go_wp2_with fail
  refine bodyPost_ret (by simp [results, Tryd.results14, go_sem]; try rfl) rfl ?_
  exact ⟨_, rfl, unhide F, unhide HG⟩
theorem small_ok : oMd smallMd := by
  refine ⟨⟨by unfold oU; decide, ?_⟩, ⟨by unfold oU; decide, fun _ _ => trivial⟩, ⟨by unfold oU; decide, ?_⟩, ⟨by unfold oU; decide, ?_⟩, ⟨by unfold oU; decide, ?_⟩, by unfold oI; decide⟩
  · intro a ha
    simp [smallMd] at ha
    subst ha
    exact ⟨by unfold oI; decide, by unfold oI; decide, by unfold oU; decide⟩
  · intro a ha
    simp [smallMd] at ha
    subst ha
    unfold oI; decide
  · intro a ha
    simp [smallMd] at ha
    subst ha
    exact ⟨by unfold oI; decide, by unfold oI; decide, by unfold oI; decide, by unfold oI; decide⟩
  · intro a ha
    simp [smallMd] at ha
    subst ha
    refine ⟨by unfold oI; decide, by unfold oI; decide, by unfold oI; decide, by unfold oI; decide, ⟨by unfold oU; decide, fun _ _ => trivial⟩, ⟨by unfold oU; decide, ?_⟩, ⟨by unfold oU; decide, ?_⟩⟩
    · intro b hb
      simp at hb
      rcases hb with rfl | rfl | rfl <;> exact ⟨by unfold oI; decide, by unfold oI; decide, by unfold oI; decide, by unfold oI; decide, by unfold oI; decide⟩
    · intro b hb
      simp at hb
      subst hb
      unfold oU; decide
end Go.Proofs.YtdekhnfncecacaaDoor
