/- The contract of arena.New. -/
import Derived.Test.YtgflkpccddfalaaGreatDoorArenaCopy
import Derived.Laws.MakeOwn
namespace Go.Proofs.YtgflkpccddfalaaGreatDoor
set_option maxRecDepth 100000
open Go.RowKit Go.Maps Go.ChangeShapes Go.WideShapes Go.ChangeAt

set_option maxHeartbeats 400000 in
theorem new_no (w : World) (s : Int) (h : s < 8 ∨ 512 < s) :
    Calls Tryz.prog 39 #[.int .i64 s] w fun e w' => e = .returned (.tuple #[.pointer none, .int .i64 1]) ∧ w' = w := by
  by_cases h8 : s < 8
  · clear h
    go_enter Tryz.func39, Tryz.ntmps39
    go_wp2_with fail
    go_ret2
    exact ⟨rfl, rfl⟩
  · have h5 : 512 < s := by omega
    clear h
    have hd : decide (s < 8) = false := by simpa using h8
    go_enter Tryz.func39, Tryz.ntmps39
    go_wp2_with fail
    go_ret2
    exact ⟨rfl, rfl⟩

/-- An arena of n spans whose first k have no class, the others the class 0 (while it is made). -/
def abNew (n k : Nat) : Ab := ⟨n, fun s => if s < k then -1 else 0, fun _ => 0, fun _ => 0, fun _ => 0⟩
/-- A new arena. -/
def ab0 (n : Nat) : Ab := ⟨n, fun _ => -1, fun _ => 0, fun _ => 0, fun _ => 0⟩
theorem ab0_good {n : Nat} (h0 : 8 ≤ n) (h1 : n ≤ 512) : (ab0 n).Good :=
  ⟨⟨h0, h1, rfl, fun _ => by show (-1 : Int) ≤ -1 ∧ (-1 : Int) ≤ 5; omega, fun s h => absurd h (by show ¬ (0 : Int) ≤ -1; omega), fun s h => absurd h (by show ¬ (0 : Int) ≤ -1; omega)⟩, fun _ _ => ⟨rfl, rfl⟩⟩

theorem made_get (z : Array Value) (n i : Nat) (h : i < n) : (madeCells z n)[i]? = some (z[i % z.size]!) := by
  unfold madeCells
  simp [h]

theorem wordsAt_new {w : World} {b n : Nat} (hn : n ≤ 512) (hb : w.heap[b]? = some (.cells (madeCells #[.int .i64 0] (n * 64 * 1)) 2 (0, 0))) : WordsAt w b b (n * 64) (abNew n 0) := by
  refine ⟨Nat.le_refl _, fun i hi => ?_, fun i => by simp [World.frozen?, hb], Nat.le_refl _, by unfold maxLen; show n * 64 ≤ _; omega⟩
  have hi' : i < n * 64 := hi
  have := made_get #[.int .i64 0] (n * 64 * 1) i (by omega)
  simp only [World.cell?, hb]
  rw [this]
  simp [Nat.mod_one, abNew]
theorem spansAt_new {w : World} {b n : Nat} (hn : n ≤ 512) (hb : w.heap[b]? = some (.cells (madeCells #[.int .i64 0, .int .u64 0, .int .u64 0] (n * 3)) 90 (0, 0))) : SpansAt w b b n (abNew n 0) := by
  refine ⟨Nat.le_refl _, fun s hs => ?_, fun s hs => ?_, fun s hs => ?_, fun i => by simp [World.frozen?, hb], Nat.le_refl _, by unfold maxLen; show n ≤ _; omega⟩
  all_goals
    have hs' : s < n := hs
    simp only [World.cell?, hb]
  · rw [made_get _ _ _ (by omega)]
    simp [abNew]
  · rw [made_get _ _ _ (by omega)]
    simp [abNew, Nat.add_mod]
  · rw [made_get _ _ _ (by omega)]
    simp [abNew, Nat.add_mod]

theorem AreAt.none {w : World} {B : Nat} {d : Ad} {n k : Nat} (h : AreAt w B d (abNew n k)) (hk : k < n) : AreAt (w.setCell ⟨d.sb, k * 3, none⟩ (.int .i64 (-1))) B d (abNew n (k + 1)) := by
  refine h.span (a' := abNew n (k + 1)) (s := k) rfl rfl ?_ ?_ ?_ ?_ ?_ ?_
  · intro t ht
    refine ⟨?_, rfl, rfl⟩
    show (if t < k + 1 then (-1 : Int) else 0) = if t < k then -1 else 0
    by_cases h1 : t < k
    · rw [if_pos (by omega), if_pos h1]
    · rw [if_neg (by omega), if_neg h1]
  · intro b i hb
    rw [cell_other _ (by omega)]
  · intro b i
    rw [World.frozen?_setCell]
  · rw [cell_same _ (h.s0 k hk)]
    show _ = some (Value.int .i64 (if k < k + 1 then -1 else 0))
    rw [if_pos (by omega)]
  · rw [cell_other _ (by omega), h.s1 k hk]; rfl
  · rw [cell_other _ (by omega), h.s2 k hk]; rfl

theorem mk_words (n : Nat) (hn : n ≤ 512) (w : World) : (Instr.makeSlice 31 (.int .i64 ((n : Int) * 64)) (.int .i64 ((n : Int) * 64))).run Tryz.prog w =
    .ok (.slice (some ⟨w.heap.size, 0, none⟩) (n * 64) (n * 64)) (w.alloc (.cells (madeCells #[.int .i64 0] (n * 64 * 1)) 2)) := by
  obtain ⟨i0, hi0, hz0, hz1, hz2⟩ := info_parts info_int64
  have := run_make (P := Tryz.prog) w 31 2 i0 (.int .i64 0) Tryz.underlying31 hi0 hz0 .i64 .i64 ((n : Int) * 64) ((n : Int) * 64) (by omega) (Int.le_refl _) (by rw [hz2]; omega) (by omega)
  rw [this, hz1]
  have e : ((n : Int) * 64).toNat = n * 64 := by omega
  rw [e]
  rfl
theorem mk_spans (n : Nat) (hn : n ≤ 512) (w : World) : (Instr.makeSlice 104 (.int .i64 (n : Int)) (.int .i64 (n : Int))).run Tryz.prog w =
    .ok (.slice (some ⟨w.heap.size, 0, none⟩) n n) (w.alloc (.cells (madeCells #[.int .i64 0, .int .u64 0, .int .u64 0] (n * 3)) 90)) := by
  obtain ⟨i0, hi0, hz0, hz1, hz2⟩ := info_parts info_state
  have := run_make (P := Tryz.prog) w 104 90 i0 (.agg #[.int .i64 0, .int .u64 0, .int .u64 0]) Tryz.underlying104 hi0 hz0 .i64 .i64 (n : Int) (n : Int) (by omega) (Int.le_refl _) (by rw [hz2]; omega) (by omega)
  rw [this, hz1]
  simp only [Int.toNat_natCast]
  rfl

theorem G.set {a b : World} (h : G a b) (x : Addr) (v : Value) (hx : a.heap.size ≤ x.block) : G a (b.setCell x v) :=
  ⟨h.os, h.tape, h.output, by rw [World.size_setCell]; exact h.size, fun k hk => by rw [Below.heap_setCell _ _ _ _ (by omega)]; exact h.block k hk⟩

theorem AreAt.whole {w : World} {B : Nat} {d : Ad} {n : Nat} (h : AreAt w B d (abNew n n)) : AreAt w B d (ab0 n) :=
  ⟨h.c0, h.c1, h.wd, fun s hs => by
    have := h.s0 s hs
    have e : (abNew n n).cls s = -1 := if_pos hs
    rw [e] at this
    exact this, h.s1, h.s2, h.fw, h.fs, h.b0, h.b1, h.b2, h.n01, h.n02, h.n12, h.lw, h.ls, h.hcw, h.hcs⟩

theorem _root_.And.step {w wr : World} {d : Ad} {n j : Nat} (h : AreAt wr w.heap.size d (abNew n j) ∧ G w wr) (hj : j < n) :
    AreAt (wr.setCell ⟨d.sb, j * 3, none⟩ (.int .i64 (-1))) w.heap.size d (abNew n (j + 1)) ∧ G w (wr.setCell ⟨d.sb, j * 3, none⟩ (.int .i64 (-1))) := ⟨h.1.none hj, h.2.set _ _ h.1.b2⟩

theorem made1 (w : World) (n : Nat) (C1 C2 : Array Value) (h0 : 8 ≤ n)
    (H1 : ∀ w : World, ∀ b, w.heap[b]? = some (.cells C1 2 (0, 0)) → WordsAt w b b (n * 64) (abNew n 0)) (H2 : ∀ w : World, ∀ b, w.heap[b]? = some (.cells C2 90 (0, 0)) → SpansAt w b b n (abNew n 0)) :
    AreAt (((w.alloc (.cells C1 2)).alloc (.cells C2 90)).alloc (.cells #[.slice (some ⟨w.heap.size, 0, none⟩) (n * 64) (n * 64), .slice (some ⟨w.heap.size + 1, 0, none⟩) n n] 106)).drew w.heap.size ⟨w.heap.size + 1 + 1, w.heap.size, w.heap.size + 1, n * 64, n⟩ (abNew n 0) ∧
    G w (((w.alloc (.cells C1 2)).alloc (.cells C2 90)).alloc (.cells #[.slice (some ⟨w.heap.size, 0, none⟩) (n * 64) (n * 64), .slice (some ⟨w.heap.size + 1, 0, none⟩) n n] 106)).drew := by
  have e2 : ((w.alloc (.cells C1 2)).alloc (.cells C2 90)).heap.size = w.heap.size + 1 + 1 := by rw [World.size_alloc, World.size_alloc]
  have b1 : ((w.alloc (.cells C1 2)).alloc (.cells C2 90)).heap[w.heap.size]? = some (.cells C1 2 (0, 0)) := by
    rw [_root_.Go.heap_alloc_old _ _ (by rw [World.size_alloc]; omega)]
    exact heap_alloc_new w _
  have b2 : ((w.alloc (.cells C1 2)).alloc (.cells C2 90)).heap[w.heap.size + 1]? = some (.cells C2 90 (0, 0)) := by
    have := heap_alloc_new (w.alloc (.cells C1 2)) (.cells C2 90)
    rw [World.size_alloc] at this
    exact this
  obtain ⟨k1, k2⟩ := copied (w := w) (a := abNew n 0) h0 ((G.alloc w _).more _) (H1 _ _ b1) (H2 _ _ b2) (Nat.le_refl _) (by omega) (by omega)
  rw [e2] at k1
  exact ⟨k1.grown h0 (G.refl _).drew, k2.drew⟩
theorem made2 (w : World) (n : Nat) (C1 C2 : Array Value) (h0 : 8 ≤ n)
    (H1 : ∀ w : World, ∀ b, w.heap[b]? = some (.cells C1 2 (0, 0)) → WordsAt w b b (n * 64) (abNew n 0)) (H2 : ∀ w : World, ∀ b, w.heap[b]? = some (.cells C2 90 (0, 0)) → SpansAt w b b n (abNew n 0)) :
    AreAt (((w.alloc (.cells C2 90)).alloc (.cells C1 2)).alloc (.cells #[.slice (some ⟨w.heap.size + 1, 0, none⟩) (n * 64) (n * 64), .slice (some ⟨w.heap.size, 0, none⟩) n n] 106)).drew w.heap.size ⟨w.heap.size + 1 + 1, w.heap.size + 1, w.heap.size, n * 64, n⟩ (abNew n 0) ∧
    G w (((w.alloc (.cells C2 90)).alloc (.cells C1 2)).alloc (.cells #[.slice (some ⟨w.heap.size + 1, 0, none⟩) (n * 64) (n * 64), .slice (some ⟨w.heap.size, 0, none⟩) n n] 106)).drew := by
  have e2 : ((w.alloc (.cells C2 90)).alloc (.cells C1 2)).heap.size = w.heap.size + 1 + 1 := by rw [World.size_alloc, World.size_alloc]
  have b1 : ((w.alloc (.cells C2 90)).alloc (.cells C1 2)).heap[w.heap.size]? = some (.cells C2 90 (0, 0)) := by
    rw [_root_.Go.heap_alloc_old _ _ (by rw [World.size_alloc]; omega)]
    exact heap_alloc_new w _
  have b2 : ((w.alloc (.cells C2 90)).alloc (.cells C1 2)).heap[w.heap.size + 1]? = some (.cells C1 2 (0, 0)) := by
    have := heap_alloc_new (w.alloc (.cells C2 90)) (.cells C1 2)
    rw [World.size_alloc] at this
    exact this
  obtain ⟨k1, k2⟩ := copied (w := w) (a := abNew n 0) h0 ((G.alloc w _).more _) (H1 _ _ b2) (H2 _ _ b1) (by omega) (Nat.le_refl _) (by omega)
  rw [e2] at k1
  exact ⟨k1.grown h0 (G.refl _).drew, k2.drew⟩

set_option maxHeartbeats 1000000 in
theorem new_core (w : World) (n : Nat) (C1 C2 : Array Value) (h0 : 8 ≤ n) (h1 : n ≤ 512)
    (M1 : ∀ w, (Instr.makeSlice 31 (.int .i64 ((n : Int) * 64)) (.int .i64 ((n : Int) * 64))).run Tryz.prog w = .ok (.slice (some ⟨w.heap.size, 0, none⟩) (n * 64) (n * 64)) (w.alloc (.cells C1 2)))
    (M2 : ∀ w, (Instr.makeSlice 104 (.int .i64 (n : Int)) (.int .i64 (n : Int))).run Tryz.prog w = .ok (.slice (some ⟨w.heap.size, 0, none⟩) n n) (w.alloc (.cells C2 90)))
    (H1 : Hid (∀ w : World, ∀ b, w.heap[b]? = some (.cells C1 2 (0, 0)) → WordsAt w b b (n * 64) (abNew n 0))) (H2 : Hid (∀ w : World, ∀ b, w.heap[b]? = some (.cells C2 90 (0, 0)) → SpansAt w b b n (abNew n 0))) :
    Calls Tryz.prog 39 #[.int .i64 (n : Int)] w fun e w' => ∃ d : Ad, e = .returned (.tuple #[d.ptr, .int .i64 0]) ∧ AreAt w' w.heap.size d (ab0 n) ∧ G w w' := by
  have hd : decide ((n : Int) < 8) = false := by simp; omega
  have hd2 : decide ((512 : Int) < (n : Int)) = false := by simp; omega
  go_enter Tryz.func39, Tryz.ntmps39
  go_wp2_with fail
  go_region
  · have R0 := hide (made1 w n C1 C2 h0 (unhide H1) (unhide H2))
    go_wp2_with fail
    go_loopw [24] (fun c wr => ∃ j : Nat, j ≤ n ∧ c = .int .i64 j ∧ Hid (AreAt wr w.heap.size ⟨w.heap.size + 1 + 1, w.heap.size, w.heap.size + 1, n * 64, n⟩ (abNew n j) ∧ G w wr)) (fun c _ => n - (intOf c).toNat)
    case atStart => exact ⟨0, Nat.zero_le _, rfl, R0⟩
    case round =>
      obtain ⟨j, hj, rfl, R⟩ := hrel
      clear R0
      by_cases hjn : j = n
      · subst hjn
        go_wp2_with fail
        go_ret2
        exact ⟨_, rfl, (unhide R).1.whole, (unhide R).2⟩
      · have hjl : (j : Int) < (n : Int) := by omega
        have hja : j < n := by omega
        have c1 : wr.cell? ⟨w.heap.size + 1 + 1, 1, none⟩ = some (.slice (some ⟨w.heap.size + 1, 0, none⟩) n n) := (unhide R).1.c1
        have x2 : wr.cell? ⟨w.heap.size + 1, j * 3, none⟩ = some (.int .i64 ((abNew n j).cls j)) := (unhide R).1.s0 j hja
        have f2 : wr.frozen? ⟨w.heap.size + 1, j * 3, none⟩ = false := (unhide R).1.fs _
        have R1 := hide ((unhide R).step hja)
        generalize (abNew n j).cls j = m at x2
        clear R
        go_wp2_with fail
        go_roundw
        case rel => exact ⟨j + 1, by omega, by go_num, R1⟩
        case measure => simp [intOf]; omega
  · have R0 := hide (made2 w n C1 C2 h0 (unhide H1) (unhide H2))
    go_wp2_with fail
    go_loopw [24] (fun c wr => ∃ j : Nat, j ≤ n ∧ c = .int .i64 j ∧ Hid (AreAt wr w.heap.size ⟨w.heap.size + 1 + 1, w.heap.size + 1, w.heap.size, n * 64, n⟩ (abNew n j) ∧ G w wr)) (fun c _ => n - (intOf c).toNat)
    case atStart => exact ⟨0, Nat.zero_le _, rfl, R0⟩
    case round =>
      obtain ⟨j, hj, rfl, R⟩ := hrel
      clear R0
      by_cases hjn : j = n
      · subst hjn
        go_wp2_with fail
        go_ret2
        exact ⟨_, rfl, (unhide R).1.whole, (unhide R).2⟩
      · have hjl : (j : Int) < (n : Int) := by omega
        have hja : j < n := by omega
        have c1 : wr.cell? ⟨w.heap.size + 1 + 1, 1, none⟩ = some (.slice (some ⟨w.heap.size, 0, none⟩) n n) := (unhide R).1.c1
        have x2 : wr.cell? ⟨w.heap.size, j * 3, none⟩ = some (.int .i64 ((abNew n j).cls j)) := (unhide R).1.s0 j hja
        have f2 : wr.frozen? ⟨w.heap.size, j * 3, none⟩ = false := (unhide R).1.fs _
        have R1 := hide ((unhide R).step hja)
        generalize (abNew n j).cls j = m at x2
        clear R
        go_wp2_with fail
        go_roundw
        case rel => exact ⟨j + 1, by omega, by go_num, R1⟩
        case measure => simp [intOf]; omega

theorem new_yes (w : World) (n : Nat) (h0 : 8 ≤ n) (h1 : n ≤ 512) :
    Calls Tryz.prog 39 #[.int .i64 (n : Int)] w fun e w' => ∃ d : Ad, e = .returned (.tuple #[d.ptr, .int .i64 0]) ∧ AreAt w' w.heap.size d (ab0 n) ∧ G w w' :=
  new_core w n _ _ h0 h1 (mk_words n h1) (mk_spans n h1) (hide fun _ _ hb => wordsAt_new h1 hb) (hide fun _ _ hb => spansAt_new h1 hb)

/-! ### the calls, as a law uses them -/
/-- What a law knows of a new arena, whatever it knows of its own first world. -/
theorem st_new {W w w' : World} {d : Ad} {n : Nat} (hb : Below W.heap.size W w) (ht : Tab W) (h0 : 8 ≤ n) (h1 : n ≤ 512) (h : AreAt w' w.heap.size d (ab0 n)) (g : G w w') : St W w' d (ab0 n) := by
  have hs := hb.size
  exact ⟨⟨h.c0, h.c1, h.wd, h.s0, h.s1, h.s2, h.fw, h.fs, Nat.le_trans hs h.b0, Nat.le_trans hs h.b1, Nat.le_trans hs h.b2, h.n01, h.n02, h.n12, h.lw, h.ls, h.hcw, h.hcs⟩, ab0_good h0 h1, hb.trans (g.mono hs), ht⟩
theorem AreAt.lower {w : World} {B B' : Nat} {d : Ad} {a : Ab} (h : AreAt w B d a) (hs : B' ≤ B) : AreAt w B' d a :=
  ⟨h.c0, h.c1, h.wd, h.s0, h.s1, h.s2, h.fw, h.fs, Nat.le_trans hs h.b0, Nat.le_trans hs h.b1, Nat.le_trans hs h.b2, h.n01, h.n02, h.n12, h.lw, h.ls, h.hcw, h.hcs⟩

section
variable {W w : World} {d : Ad} {a : Ab}
theorem st_spans (h : Hid (St W w d a)) : Calls Tryz.prog 60 #[d.ptr] w fun e w' => e = .returned (.int .i64 a.n) ∧ w' = w := spans_core w d.ab d.sb a.n d.cs (unhide h).at_.c1
theorem st_cls (h : Hid (St W w d a)) (s : Int) : Calls Tryz.prog 63 #[d.ptr, .int .i64 s] w fun e w' => e = .returned (.int .i64 (a.clsI s)) ∧ St W w' d a ∧ G w w' :=
  (class_at w _ d a (unhide h).at_ s).mono fun _ _ hh => ⟨hh.1, (unhide h).G hh.2, hh.2⟩
theorem st_taken (h : Hid (St W w d a)) (s : Int) : Calls Tryz.prog 14 #[d.ptr, .int .i64 s] w fun e w' => e = .returned (.int .u64 (a.tkI s : Int)) ∧ St W w' d a ∧ G w w' :=
  (taken_at w _ d a (unhide h).at_ s).mono fun _ _ hh => ⟨hh.1, (unhide h).G hh.2, hh.2⟩
theorem st_is (h : Hid (St W w d a)) (x : Int) : Calls Tryz.prog 15 #[d.ptr, .int .i64 x] w fun e w' => e = .returned (.bool (a.is x)) ∧ St W w' d a ∧ G w w' :=
  (is_at w _ d a (unhide h).at_ (unhide h).good x).mono fun _ _ hh => ⟨hh.1, (unhide h).G hh.2, hh.2⟩
theorem st_read (h : Hid (St W w d a)) (x i : Int) : Calls Tryz.prog 51 #[d.ptr, .int .i64 x, .int .i64 i] w fun e w' => e = .returned (.tuple #[.int .i64 (a.readV x i), .int .i64 (a.readE x i)]) ∧ St W w' d a ∧ G w w' :=
  (read_at w _ d a (unhide h).at_ (unhide h).good x i).mono fun _ _ hh => ⟨hh.1, (unhide h).G hh.2, hh.2⟩
theorem st_write (h : Hid (St W w d a)) (x i v : Int) : Calls Tryz.prog 26 #[d.ptr, .int .i64 x, .int .i64 i, .int .i64 v] w fun e w' => e = .returned (.int .i64 (a.readE x i)) ∧ St W w' d (a.writeA x i v) ∧ Tn w w' d :=
  (write_at w _ d a (unhide h).at_ (unhide h).good x i v).mono fun _ _ hh => ⟨hh.1, (unhide h).turn hh.2.1 ((unhide h).good.writeA x i v) hh.2.2, hh.2.2⟩
theorem st_set (h : Hid (St W w d a)) (s c : Int) : Calls Tryz.prog 94 #[d.ptr, .int .i64 s, .int .i64 c] w fun e w' => e = .returned (.int .i64 (a.setE s c)) ∧ St W w' d (a.setA s c) ∧ Tn w w' d :=
  (set_at w _ d a (unhide h).at_ (unhide h).good s c).mono fun _ _ hh => ⟨hh.1, (unhide h).turn hh.2.1 ((unhide h).good.setA s c) hh.2.2, hh.2.2⟩
theorem st_take (h : Hid (St W w d a)) (s : Int) : Calls Tryz.prog 92 #[d.ptr, .int .i64 s] w fun e w' => e = .returned (.tuple #[.int .i64 (a.takeV s), .int .i64 (a.takeE s)]) ∧ St W w' d (a.takeA s) ∧ Tn w w' d :=
  (take_at w _ d a (unhide h).at_ (unhide h).good (unhide h).tabw s).mono fun _ _ hh => ⟨hh.1, (unhide h).turn hh.2.1 ((unhide h).good.takeA s) hh.2.2, hh.2.2⟩
theorem st_mark (h : Hid (St W w d a)) (x : Int) : Calls Tryz.prog 66 #[d.ptr, .int .i64 x] w fun e w' => e = .returned (.bool (a.markB x)) ∧ St W w' d (a.markA x) ∧ Tn w w' d :=
  (mark_at w _ d a (unhide h).at_ (unhide h).good x).mono fun _ _ hh => ⟨hh.1, (unhide h).turn hh.2.1 ((unhide h).good.markA x) hh.2.2, hh.2.2⟩
theorem st_sweep (h : Hid (St W w d a)) (s : Int) : Calls Tryz.prog 100 #[d.ptr, .int .i64 s] w fun e w' => e = .returned (.int .i64 (a.sweepN s : Int)) ∧ St W w' d (a.sweepA s) ∧ Tn w w' d :=
  (sweep_at w _ d a (unhide h).at_ (unhide h).good s).mono fun _ _ hh => ⟨hh.1, (unhide h).turn hh.2.1 ((unhide h).good.sweepA s) hh.2.2, hh.2.2⟩
theorem st_clear (h : Hid (St W w d a)) : Calls Tryz.prog 54 #[d.ptr] w fun e w' => e = .returned (.tuple #[]) ∧ St W w' d a.clear ∧ Tn w w' d :=
  (clear_at w _ d a (unhide h).at_ (unhide h).good).mono fun _ _ hh => ⟨hh.1, (unhide h).turn hh.2.1 (unhide h).good.clear hh.2.2, hh.2.2⟩
end

theorem st_make {W w : World} (n : Nat) (h0 : 8 ≤ n) (h1 : n ≤ 512) (hb : Hid (Below W.heap.size W w)) (ht : Hid (Tab W)) :
    Calls Tryz.prog 39 #[.int .i64 (n : Int)] w fun e w' => ∃ d : Ad, e = .returned (.tuple #[.pointer (some ⟨d.ab, 0, none⟩), .int .i64 0]) ∧ St W w' d (ab0 n) ∧ G w w' ∧ w.heap.size ≤ d.ab ∧ w.heap.size ≤ d.wb ∧ w.heap.size ≤ d.sb :=
  (new_yes w n h0 h1).mono fun _ _ ⟨d, he, h, g⟩ => ⟨d, he, st_new (unhide hb) (unhide ht) h0 h1 h g, g, h.b0, h.b1, h.b2⟩

theorem st_make8 {W w : World} (hb : Hid (Below W.heap.size W w)) (ht : Hid (Tab W)) :
    Calls Tryz.prog 39 #[.int .i64 8] w fun e w' => ∃ d : Ad, e = .returned (.tuple #[.pointer (some ⟨d.ab, 0, none⟩), .int .i64 0]) ∧ St W w' d (ab0 8) ∧ G w w' ∧ w.heap.size ≤ d.ab ∧ w.heap.size ≤ d.wb ∧ w.heap.size ≤ d.sb :=
  st_make 8 (by decide) (by decide) hb ht

/-- Another arena is not turned by what is done to one. -/
theorem St.beside {W w w' : World} {d d2 : Ad} {a : Ab} (h : St W w d a) (t : Tn w w' d2) (hb : Below W.heap.size W w') (h0 : d.ab ≠ d2.wb ∧ d.ab ≠ d2.sb) (h1 : d.wb ≠ d2.wb ∧ d.wb ≠ d2.sb) (h2 : d.sb ≠ d2.wb ∧ d.sb ≠ d2.sb) : St W w' d a :=
  ⟨h.at_.kept (t.block _ h.at_.lt0 h0.1 h0.2) (t.block _ (h.at_.lt1 h.n8) h1.1 h1.2) (t.block _ (h.at_.lt2 h.n8) h2.1 h2.2), h.good, hb, h.tab⟩
end Go.Proofs.YtgflkpccddfalaaGreatDoor
