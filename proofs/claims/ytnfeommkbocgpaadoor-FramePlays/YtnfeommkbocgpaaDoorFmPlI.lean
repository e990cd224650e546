/- FramePlays: the program's Stack and the law's own frames, side by side. -/
import Derived.Test.YtnfeommkbocgpaaDoorFmHeld3
namespace Go.Proofs.YtnfeommkbocgpaaDoor
open Go.RowKit Go.Maps Go.ChangeShapes Go.WideShapes Go.ChangeAt Go.Deep

/-- The Stack s holds L, the law's row v2 holds L2; neither lies in the other's blocks; all was made since X. -/
structure PlJ (X wr : World) (B s : Nat) (v : Value) (L : List Fr) (v2 : Value) (L2 : List Fr) : Prop where
  sk : SK wr B s v L
  rk : RK wr X.heap.size v2 L2
  dj : ∀ q, RKb v2 L2 q → ¬ SKb s v L q
  lo : X.heap.size ≤ B
  hB : B ≤ wr.heap.size
  g : G X wr
theorem PlJ.gr {X wr w' : World} {B s : Nat} {v v2 : Value} {L L2 : List Fr} (h : PlJ X wr B s v L v2 L2) (g : G wr w') : PlJ X w' B s v L v2 L2 :=
  ⟨h.sk.g g, h.rk.g g, h.dj, h.lo, Nat.le_trans h.hB g.size, h.g.trans g⟩
/-- A call of the Stack's. -/
theorem PlJ.mv {X wr w' : World} {B s : Nat} {v v' v2 : Value} {L L' L2 : List Fr} (h : PlJ X wr B s v L v2 L2) (k : SK w' B s v' L') (m : Mv wr w' s v L v' L') : PlJ X w' B s v' L' v2 L2 := by
  refine ⟨k, h.rk.tr m.tr h.dj, fun q hq hb => ?_, h.lo, Nat.le_trans h.hB m.tr.size, ?_⟩
  · rcases m.nw q hb with e | e
    · exact h.dj q hq e
    · have := (h.rk.lt q hq).1
      omega
  · refine ⟨m.tr.os.trans h.g.os, m.tr.tape.trans h.g.tape, m.tr.output.trans h.g.output, Nat.le_trans h.g.size m.tr.size, fun q hq => (m.tr.block q (Nat.lt_of_lt_of_le hq h.g.size) (fun hb => ?_)).trans (h.g.block q hq)⟩
    have := (h.sk.lt q hb).2
    have := h.lo
    omega
/-- One frame more in the law's own row: its cells lie in a block that was laid just now. -/
theorem PlJ.app {X wr y : World} {B s : Nat} {v v2 : Value} {L L2 : List Fr} (h : PlJ X wr B s v L v2 L2) (k : Int) (S : Nat) (l : List Int) (hl : l.length ≤ S) (b : Nat) (hy : LdTo wr S l b y) (hlen : L2.length ≤ 1000) :
    ∃ kb c x3, (Builtin.append_ #[48, 48] 48 #[v2, .slice (some ⟨y.heap.size, 0, none⟩) 1 1]).run Tryd.prog (y.alloc (.cells #[.int .i64 k, .int .i64 0, .slice (some ⟨b, 0, none⟩) S S] 46)) = .ok (.slice (some ⟨kb, 0, none⟩) (L2.length + 1) c) x3 ∧ PlJ X x3 B s v L (.slice (some ⟨kb, 0, none⟩) (L2.length + 1) c) (L2 ++ [⟨k, 0, b, S, laidL S l⟩]) := by
  have hll := laidL_len hl
  have gx := hy.2.more (.cells #[.int .i64 k, .int .i64 0, .slice (some ⟨b, 0, none⟩) S S] 46)
  have hlo := own_lo hy.1
  have own2 : (y.alloc (.cells #[.int .i64 k, .int .i64 0, .slice (some ⟨b, 0, none⟩) S S] 46)).ownsRow X.heap.size 2 1 (.slice (some ⟨b, 0, none⟩) (laidL S l).length S) (laidL S l).length ((laidL S l).map (Value.int .i64)) := by
    rw [hll]
    have q1 := own_keep1 hy.1 ((G.alloc y (.cells #[.int .i64 k, .int .i64 0, .slice (some ⟨b, 0, none⟩) S S] 46)).block _ (own_lt hy.1))
    refine ⟨q1.1, ?_⟩
    rcases q1.2 with h' | ⟨g', cap', cur, h', hb2, hr⟩
    · exact Or.inl h'
    · exact Or.inr ⟨g', cap', cur, h', Nat.le_trans h.g.size hb2, hr⟩
  obtain ⟨v', x3, hrun, r1, r2, r3⟩ := h.rk.app gx h.g.size ⟨k, 0, b, S, laidL S l⟩ own2 hlo y.heap.size (fun q u hq => by
    simp only [frC, hll] at hq
    rw [Addr.add_lit, cell_of_row _ _ _ _ _ _ (heap_alloc_new y _), Nat.zero_add]
    simpa using hq) (by omega)
  obtain ⟨kb, c, rfl⟩ := r1.vt
  have h2 := h.gr gx
  have hd : ∀ q, SKb s v L q → ¬ v2.ownBlock = some q := fun q hq e => h.dj q (Or.inl e) hq
  refine ⟨kb, c, x3, hrun, ⟨h2.sk.tr r2 hd, r1, fun q hq hb => ?_, h.lo, Nat.le_trans h2.hB r2.size, ?_⟩⟩
  · rcases hq with hq | ⟨f, hf, e⟩
    · rcases r3 q hq with e | e
      · exact hd q hb e
      · have := (h2.sk.lt q hb).1
        omega
    · rcases List.mem_append.1 hf with hf | hf
      · exact h.dj q (Or.inr ⟨f, hf, e⟩) hb
      · simp at hf
        subst hf
        have := (h.sk.lt q hb).1
        simp only at e
        omega
  · refine ⟨r2.os.trans h2.g.os, r2.tape.trans h2.g.tape, r2.output.trans h2.g.output, Nat.le_trans h2.g.size r2.size, fun q hq => (r2.block q (Nat.lt_of_lt_of_le hq h2.g.size) (fun e => ?_)).trans (h2.g.block q hq)⟩
    have := (h2.rk.lt q (Or.inl e)).2
    omega
/-- The law's own row is cut, its top's PC or a slot is set. -/
theorem PlJ.pop2 {X wr : World} {B s kb n c : Nat} {v : Value} {L L2 : List Fr} {f : Fr} (h : PlJ X wr B s v L (.slice (some ⟨kb, 0, none⟩) n c) (L2 ++ [f])) : PlJ X wr B s v L (.slice (some ⟨kb, 0, none⟩) L2.length c) L2 :=
  ⟨h.sk, h.rk.pop, fun q hq => h.dj q (rkb_pop q hq), h.lo, h.hB, h.g⟩
theorem PlJ.put {X wr : World} {B s : Nat} {v v2 : Value} {L L2 L2' : List Fr} (h : PlJ X wr B s v L v2 L2) (q i : Nat) (x : Value) (hq : RKb v2 L2 q) (h2 : RK (wr.setCell ⟨q, i, none⟩ x) X.heap.size v2 L2') (he : ∀ k, RKb v2 L2' k → RKb v2 L2 k) : PlJ X (wr.setCell ⟨q, i, none⟩ x) B s v L v2 L2' :=
  ⟨h.sk.keep (fun k hk => heap_set _ _ (show k ≠ q from fun e => h.dj q hq (by rw [← e]; exact hk))), h2, fun k hk => h.dj k (he k hk), h.lo, by rw [World.size_setCell]; exact h.hB, h.g.set q i x (h.rk.lt q hq).2⟩
theorem PlJ.jump2 {X wr : World} {B s kb n c : Nat} {v : Value} {L L2 : List Fr} {f : Fr} (h : PlJ X wr B s v L (.slice (some ⟨kb, 0, none⟩) n c) (L2 ++ [f])) (p : Int) : PlJ X (wr.setCell ⟨kb, L2.length * 3 + 1, none⟩ (.int .i64 p)) B s v L (.slice (some ⟨kb, 0, none⟩) n c) (L2 ++ [jmpFr f p]) :=
  h.put kb _ _ (Or.inl rfl) (h.rk.jump p) (fun k hk => rkb_last (f := f) (f' := jmpFr f p) rfl k hk)
theorem PlJ.set2 {X wr : World} {B s : Nat} {v v2 : Value} {L L2 : List Fr} {f : Fr} (h : PlJ X wr B s v L v2 (L2 ++ [f])) (j : Nat) (x : Int) : PlJ X (wr.setCell ⟨f.sb, j, none⟩ (.int .i64 x)) B s v L v2 (L2 ++ [⟨f.fn, f.pc, f.sb, f.sc, f.sl.set j x⟩]) :=
  h.put f.sb _ _ (Or.inr ⟨f, last_mem L2 f, rfl⟩) (h.rk.set j x) (fun k hk => rkb_last (f := f) (f' := ⟨f.fn, f.pc, f.sb, f.sc, f.sl.set j x⟩) rfl k hk)
/-- What both tell is the same, and of functions that there are. -/
structure PlE (m : Md) (L L2 : List Fr) (k : Nat) : Prop where
  pe : L2.map pf = L.map pf
  sl : ∀ f ∈ L, f.sl.length ≤ 64
  fn : ∀ f ∈ L, ∃ F, fmAt m f.fn = some F
  len : L.length ≤ k
theorem PlE.len2 {m : Md} {L L2 : List Fr} {k : Nat} (h : PlE m L L2 k) : L2.length = L.length := by have := congrArg List.length h.pe; simpa using this
theorem PlE.app {m : Md} {L L2 : List Fr} {k : Nat} (h : PlE m L L2 k) {f f2 : Fr} (e : pf f2 = pf f) (hs : f.sl.length ≤ 64) (hF : ∃ F, fmAt m f.fn = some F) : PlE m (L ++ [f]) (L2 ++ [f2]) (k + 1) := by
  refine ⟨by rw [List.map_append, List.map_append, h.pe]; simp [e], fun g hg => ?_, fun g hg => ?_, by have := h.len; simp; omega⟩
  · rcases List.mem_append.1 hg with hg | hg
    · exact h.sl g hg
    · simp at hg; subst hg; exact hs
  · rcases List.mem_append.1 hg with hg | hg
    · exact h.fn g hg
    · simp at hg; subst hg; exact hF
theorem PlE.more {m : Md} {L L2 : List Fr} {k k' : Nat} (h : PlE m L L2 k) (hk : k ≤ k') : PlE m L L2 k' := ⟨h.pe, h.sl, h.fn, Nat.le_trans h.len hk⟩
theorem PlE.last {m : Md} {L L2 : List Fr} {f f2 : Fr} {k : Nat} (h : PlE m (L ++ [f]) (L2 ++ [f2]) k) : PlE m L L2 k ∧ pf f2 = pf f ∧ f.sl.length ≤ 64 ∧ ∃ F, fmAt m f.fn = some F := by
  have hp := h.pe
  rw [List.map_append, List.map_append] at hp
  have hl : (L2.map pf).length = (L.map pf).length := by have := h.len2; simp at this ⊢; exact this
  obtain ⟨e1, e2⟩ := List.append_inj hp hl
  refine ⟨⟨e1, fun g hg => h.sl g (List.mem_append_left _ hg), fun g hg => h.fn g (List.mem_append_left _ hg), by have := h.len; simp at this; omega⟩, by simpa using e2, h.sl f (last_mem L f), h.fn f (last_mem L f)⟩
theorem PlE.nil {m : Md} {L : List Fr} {k : Nat} (h : PlE m L [] k) : L = [] := List.eq_nil_of_length_eq_zero h.len2.symm
theorem pl_held {X wr : World} {B s : Nat} {v v2 : Value} {L L2 : List Fr} {m : Md} {k : Nat} (h : PlJ X wr B s v L v2 L2) (e : PlE m L L2 k) (hk : k ≤ 900) {mv : Value} (hm : ModAt wr mv m) (ho : ∀ f ∈ m.fn, ∀ x ∈ f.ms, oU x) (hT : RowsAt wr) :
    Calls Tryd.prog 19 #[mv, .pointer (some ⟨s, 0, none⟩), v2] wr fun e w' => e = .returned (.bool true) ∧ G wr w' :=
  held_any h.sk h.rk e.pe hm ho hT (Nat.le_trans e.len hk) e.sl e.fn
/-- The first frame, in both. -/
theorem pl_start {X w3 y : World} {B s : Nat} {v : Value} {L : List Fr} (h : SK w3 B s v L) (lo : X.heap.size ≤ B) (hB : B ≤ w3.heap.size) (g : G X w3) (k : Int) (S : Nat) (l : List Int) (hl : l.length ≤ S) (b : Nat) (hy : LdTo w3 S l b y) :
    PlJ X (y.alloc (.cells #[.int .i64 k, .int .i64 0, .slice (some ⟨b, 0, none⟩) S S] 46)) B s v L (.slice (some ⟨y.heap.size, 0, none⟩) 1 1) [⟨k, 0, b, S, laidL S l⟩] := by
  have hll := laidL_len hl
  have gx := hy.2.more (.cells #[.int .i64 k, .int .i64 0, .slice (some ⟨b, 0, none⟩) S S] 46)
  have hlo := own_lo hy.1
  have hlt := own_lt hy.1
  have hsz := g.size
  have hyz := hy.2.size
  refine ⟨h.g gx, ⟨?_, fun f hf => ?_, fun q hq f hf => ?_, by simp⟩, fun q hq hb => ?_, lo, Nat.le_trans hB gx.size, g.trans gx⟩
  · have := World.ownsRow_lit (base := X.heap.size) (e := 46) (size := 3) y #[.int .i64 k, .int .i64 0, .slice (some ⟨b, 0, none⟩) S S] 1 (by omega) (by decide) rfl
    simpa [frCs, frC, hll] using this
  · simp at hf
    subst hf
    simp only [hll]
    have q1 := own_keep1 hy.1 ((G.alloc y (.cells #[.int .i64 k, .int .i64 0, .slice (some ⟨b, 0, none⟩) S S] 46)).block _ hlt)
    refine ⟨q1.1, ?_⟩
    rcases q1.2 with h' | ⟨g', cap', cur, h', hb2, hr⟩
    · exact Or.inl h'
    · exact Or.inr ⟨g', cap', cur, h', by omega, hr⟩
  · simp at hf
    subst hf
    have hqe : y.heap.size = q := Option.some.inj hq
    simp only
    omega
  · have hq3 := (h.lt q hb).1
    rcases hq with hq | ⟨f, hf, e⟩
    · have hqe : y.heap.size = q := Option.some.inj hq
      omega
    · simp at hf
      subst hf
      simp only at e
      omega
end Go.Proofs.YtnfeommkbocgpaaDoor
