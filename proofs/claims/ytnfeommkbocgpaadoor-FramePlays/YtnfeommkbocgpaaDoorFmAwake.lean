/- two and awake of gantlinelaw13. -/
import Derived.Test.YtnfeommkbocgpaaDoorFmAt
import Derived.Test.YtnfeommkbocgpaaDoorFmFrs
import Derived.Test.YtnfeommkbocgpaaDoorFmRoots
namespace Go.Proofs.YtnfeommkbocgpaaDoor
open Go.RowKit Go.Maps Go.ChangeShapes Go.WideShapes Go.ChangeAt Go.Deep

/-- The module of two. -/
def twoF : Fn := ⟨1, 0, 2, 0, [false, true], [⟨43, 0, 0, 0, 0⟩, ⟨22, -1, 0, 0, 0⟩], [2, 0]⟩
def twoM : Md := ⟨[], [], [], [], [twoF], 0⟩
abbrev agTwo (fb : Nat) : Value := .agg #[.slice none 0 0, .slice none 0 0, .slice none 0 0, .slice none 0 0, .slice (some ⟨fb, 0, none⟩) 1 1, .int .i64 0]
theorem row_blk {α : Type} {E : El α} {x : World} {b : Nat} {t : TypeId} (l : List α) (cs : List Value) (hx : x.heap[b]? = some (.cells cs.toArray t (0, 0))) (hl : l.length ≤ 1000) (hc : ∀ i a, l[i]? = some a → ∃ c, E.cs x a c ∧ ∀ q u, c[q]? = some u → cs[i * E.sz + q]? = some u) : RowAt E x (some ⟨b, 0, none⟩) l.length l.length l := by
  refine ⟨rfl, by unfold maxLen; omega, (fun e => by cases e), Or.inr ⟨b, 0, rfl, (Array.getElem?_eq_some_iff.1 hx).1, fun i a hi => ?_⟩⟩
  obtain ⟨c, h1, h2⟩ := hc i a hi
  refine ⟨c, h1, fun q u hq => ?_⟩
  rw [cell_of_row _ _ _ _ _ _ hx, Nat.zero_add]
  simpa using h2 q u hq
abbrev bK : Obj := .cells #[.bool false, .bool true] 4
abbrev bI : Obj := .cells #[.int .i64 43, .int .i64 0, .int .i64 0, .int .i64 0, .int .i64 0, .int .i64 22, .int .i64 (-1), .int .i64 0, .int .i64 0, .int .i64 0] 60
abbrev bM : Obj := .cells #[.int .u64 2, .int .u64 0] 67
abbrev bF (k i m : Nat) : Obj := .cells #[.int .i64 1, .int .i64 0, .int .i64 2, .int .i64 0, .slice (some ⟨k, 0, none⟩) 2 2, .slice (some ⟨i, 0, none⟩) 2 2, .slice (some ⟨m, 0, none⟩) 2 2] 43
theorem two_mod {x : World} {k i m f : Nat} (hk : x.heap[k]? = some bK) (hi : x.heap[i]? = some bI) (hm : x.heap[m]? = some bM) (hf : x.heap[f]? = some (bF k i m)) : ModAt x (agTwo f) twoM := by
  have r1 : RowAt elB x (some ⟨k, 0, none⟩) 2 2 twoF.ks := row_blk (E := elB) twoF.ks [.bool false, .bool true] hk (by decide) (fun i a hi => by
    refine ⟨[.bool a], rfl, fun q u hq => ?_⟩
    match i, hi with
    | 0, hi => cases hi; match q, hq with
      | 0, hq => exact hq
    | 1, hi => cases hi; match q, hq with
      | 0, hq => exact hq)
  have r2 : RowAt elIn x (some ⟨i, 0, none⟩) 2 2 twoF.is := row_blk (E := elIn) twoF.is [.int .i64 43, .int .i64 0, .int .i64 0, .int .i64 0, .int .i64 0, .int .i64 22, .int .i64 (-1), .int .i64 0, .int .i64 0, .int .i64 0] hi (by decide) (fun i a hi => by
    refine ⟨[.int .i64 a.op, .int .i64 a.a, .int .i64 a.b, .int .i64 a.c, .int .i64 a.d], rfl, fun q u hq => ?_⟩
    match i, hi with
    | 0, hi => cases hi; match q, hq with
      | 0, hq => exact hq
      | 1, hq => exact hq
      | 2, hq => exact hq
      | 3, hq => exact hq
      | 4, hq => exact hq
    | 1, hi => cases hi; match q, hq with
      | 0, hq => exact hq
      | 1, hq => exact hq
      | 2, hq => exact hq
      | 3, hq => exact hq
      | 4, hq => exact hq)
  have r3 : RowAt elU x (some ⟨m, 0, none⟩) 2 2 twoF.ms := row_blk (E := elU) twoF.ms [.int .u64 2, .int .u64 0] hm (by decide) (fun i a hi => by
    refine ⟨[.int .u64 (a : Int)], rfl, fun q u hq => ?_⟩
    match i, hi with
    | 0, hi => cases hi; match q, hq with
      | 0, hq => exact hq
    | 1, hi => cases hi; match q, hq with
      | 0, hq => exact hq)
  have r4 : RowAt elFn x (some ⟨f, 0, none⟩) 1 1 twoM.fn := row_blk (E := elFn) twoM.fn [.int .i64 1, .int .i64 0, .int .i64 2, .int .i64 0, .slice (some ⟨k, 0, none⟩) 2 2, .slice (some ⟨i, 0, none⟩) 2 2, .slice (some ⟨m, 0, none⟩) 2 2] hf (by decide) (fun j a hj => by
    refine ⟨[.int .i64 1, .int .i64 0, .int .i64 2, .int .i64 0, .slice (some ⟨k, 0, none⟩) 2 2, .slice (some ⟨i, 0, none⟩) 2 2, .slice (some ⟨m, 0, none⟩) 2 2], ?_, fun q u hq => ?_⟩
    · match j, hj with
      | 0, hj => cases hj; exact ⟨_, _, _, _, _, _, rfl, r1, r2, r3⟩
    · match j, hj with
      | 0, hj => cases hj; rw [Nat.zero_mul, Nat.zero_add]; exact hq)
  exact ⟨none, 0, none, 0, none, 0, none, 0, some ⟨f, 0, none⟩, 1, rfl, RowAt.nil x, RowAt.nil x, RowAt.nil x, RowAt.nil x, r4⟩
/-- What two answers: blocks one behind the other. -/
structure TwoTo (w w' : World) (k i m f : Nat) : Prop where
  hk : w'.heap[k]? = some bK
  hi : w'.heap[i]? = some bI
  hm : w'.heap[m]? = some bM
  hf : w'.heap[f]? = some (bF k i m)
  g : G w w'
  lo : w.heap.size ≤ k ∧ w.heap.size ≤ i ∧ w.heap.size ≤ m ∧ w.heap.size ≤ f
  ne : k ≠ f ∧ i ≠ f ∧ m ≠ f
theorem TwoTo.mod {w w' : World} {k i m f : Nat} (h : TwoTo w w' k i m f) : ModAt w' (agTwo f) twoM := two_mod h.hk h.hi h.hm h.hf
theorem two_fin (w : World) (o : Obj) : TwoTo w (((((w.alloc o).alloc bK).alloc bI).alloc bM).alloc (bF (w.heap.size + 1) (w.heap.size + 1 + 1) (w.heap.size + 1 + 1 + 1))) (w.heap.size + 1) (w.heap.size + 1 + 1) (w.heap.size + 1 + 1 + 1) (w.heap.size + 1 + 1 + 1 + 1) := by
  have s1 : (w.alloc o).heap.size = w.heap.size + 1 := World.size_alloc _ _
  have s2 : ((w.alloc o).alloc bK).heap.size = w.heap.size + 1 + 1 := by rw [World.size_alloc, s1]
  have s3 : (((w.alloc o).alloc bK).alloc bI).heap.size = w.heap.size + 1 + 1 + 1 := by rw [World.size_alloc, s2]
  have s4 : ((((w.alloc o).alloc bK).alloc bI).alloc bM).heap.size = w.heap.size + 1 + 1 + 1 + 1 := by rw [World.size_alloc, s3]
  have hk := heap_alloc_new (w.alloc o) bK
  have hi := heap_alloc_new ((w.alloc o).alloc bK) bI
  have hm := heap_alloc_new (((w.alloc o).alloc bK).alloc bI) bM
  have hf := heap_alloc_new ((((w.alloc o).alloc bK).alloc bI).alloc bM) (bF (w.heap.size + 1) (w.heap.size + 1 + 1) (w.heap.size + 1 + 1 + 1))
  rw [s1] at hk
  rw [s2] at hi
  rw [s3] at hm
  rw [s4] at hf
  refine ⟨?_, ?_, ?_, hf, ((((G.alloc w o).more _).more _).more _).more _, by omega, by omega⟩
  · exact ((G.alloc _ _).block _ (by rw [s4]; omega)).trans (((G.alloc _ _).block _ (by rw [s3]; omega)).trans (((G.alloc _ _).block _ (by rw [s2]; omega)).trans hk))
  · exact ((G.alloc _ _).block _ (by rw [s4]; omega)).trans (((G.alloc _ _).block _ (by rw [s3]; omega)).trans hi)
  · exact ((G.alloc _ _).block _ (by rw [s4]; omega)).trans hm
set_option maxHeartbeats 1000000 in
theorem two_any (w : World) : Calls Tryd.prog 9 #[] w fun e w' => ∃ k i m f, e = .returned (agTwo f) ∧ TwoTo w w' k i m f := by
  go_enter Tryd.func9, Tryd.ntmps9
  go_wp2_with fail
  refine bodyPost_ret (by simp [results, Tryd.results9, go_sem]; try rfl) rfl ?_
  exact ⟨_, _, _, _, rfl, two_fin w _⟩
theorem two_g (w : World) : Calls Tryd.prog 9 #[] w fun e w' => ∃ f, e = .returned (agTwo f) ∧ ModAt w' (agTwo f) twoM ∧ G w w' := (two_any w).mono (by
  rintro e w' ⟨k, i, m, f, rfl, h⟩
  exact ⟨f, rfl, h.mod, h.g⟩)

/-- A Stack beside cells that are kept; all in memory made since W. -/
structure AwS (W w : World) (B s : Nat) (v : Value) (L : List Fr) (KC : List (Addr × Value)) : Prop where
  sk : SK w B s v L
  lo : W.heap.size ≤ B
  hB : B ≤ w.heap.size
  g : G W w
  kc : ∀ p ∈ KC, w.cell? p.1 = some p.2 ∧ ¬ SKb s v L p.1.block
theorem AwS.gr {W w w' : World} {B s : Nat} {v : Value} {L : List Fr} {KC : List (Addr × Value)} (h : AwS W w B s v L KC) (g : G w w') : AwS W w' B s v L KC :=
  ⟨h.sk.g g, h.lo, Nat.le_trans h.hB g.size, h.g.trans g, fun p hp => ⟨g.cell (h.kc p hp).1, (h.kc p hp).2⟩⟩
theorem AwS.mv {W w w' : World} {B s : Nat} {v v' : Value} {L L' : List Fr} {KC : List (Addr × Value)} (h : AwS W w B s v L KC) (k : SK w' B s v' L') (m : Mv w w' s v L v' L') : AwS W w' B s v' L' KC := by
  refine ⟨k, h.lo, Nat.le_trans h.hB m.tr.size, ?_, fun p hp => ⟨m.tr.cell (h.kc p hp).1 (h.kc p hp).2, fun hb => ?_⟩⟩
  · refine ⟨m.tr.os.trans h.g.os, m.tr.tape.trans h.g.tape, m.tr.output.trans h.g.output, Nat.le_trans h.g.size m.tr.size, fun q hq => (m.tr.block q (Nat.lt_of_lt_of_le hq h.g.size) (fun hb => ?_)).trans (h.g.block q hq)⟩
    have := (h.sk.lt q hb).2
    have := h.lo
    omega
  · rcases m.nw _ hb with e | e
    · exact (h.kc p hp).2 e
    · have := World.block_lt_of_cell? w _ (h.kc p hp).1
      omega
theorem AwS.add {W w w' : World} {B s : Nat} {v : Value} {L : List Fr} {KC KC' : List (Addr × Value)} (h0 : AwS W w B s v L KC') (h : AwS W w' B s v L KC) (a : Addr) (x : Value) (hc : w'.cell? a = some x) (hn : w.heap.size ≤ a.block) : AwS W w' B s v L ((a, x) :: KC) :=
  ⟨h.sk, h.lo, h.hB, h.g, fun p hp => by
    rcases List.mem_cons.1 hp with rfl | hp
    · exact ⟨hc, fun hb => by have := (h0.sk.lt _ hb).1; simp only at this; omega⟩
    · exact h.kc p hp⟩
theorem AwS.few {W w : World} {B s : Nat} {v : Value} {L : List Fr} {KC KC' : List (Addr × Value)} (h : AwS W w B s v L KC) (hs : ∀ p ∈ KC', p ∈ KC) : AwS W w B s v L KC' := ⟨h.sk, h.lo, h.hB, h.g, fun p hp => h.kc p (hs p hp)⟩
theorem a_get {W w : World} {B s : Nat} {v : Value} {L : List Fr} {KC : List (Addr × Value)} (h : AwS W w B s v L KC) (hl : L.length ≤ 1000) (j x : Int) (hx : getP L j = x) :
    Calls Tryd.prog 12 #[.pointer (some ⟨s, 0, none⟩), .int .i64 j] w fun e w' => e = .returned (.int .i64 x) ∧ AwS W w' B s v L KC := (s_get h.sk hl j).mono (by
  rintro e w' ⟨rfl, k, rfl⟩
  exact ⟨by rw [hx], h.gr (G.drewN w k)⟩)
theorem a_set {W w : World} {B s : Nat} {v : Value} {L L' : List Fr} {KC : List (Addr × Value)} (h : AwS W w B s v L KC) (hl : L.length ≤ 1000) (j x : Int) (hL : setP L j x = L') :
    Calls Tryd.prog 18 #[.pointer (some ⟨s, 0, none⟩), .int .i64 j, .int .i64 x] w fun e w' => e = .returned (.tuple #[]) ∧ AwS W w' B s v L' KC := (s_set h.sk hl j x).mono (by
  rintro e w' ⟨rfl, h1, h2⟩
  rw [← hL]
  exact ⟨rfl, h.mv h1 h2⟩)
theorem a_jump {W w : World} {B s : Nat} {v : Value} {L L' : List Fr} {KC : List (Addr × Value)} (h : AwS W w B s v L KC) (hl : L.length ≤ 1000) (p : Int) (hL : jmpP L p = L') :
    Calls Tryd.prog 17 #[.pointer (some ⟨s, 0, none⟩), .int .i64 p] w fun e w' => e = .returned (.tuple #[]) ∧ AwS W w' B s v L' KC := (s_jump h.sk hl p).mono (by
  rintro e w' ⟨rfl, h1, h2⟩
  rw [← hL]
  exact ⟨rfl, h.mv h1 h2⟩)
theorem a_depth {W w : World} {B s : Nat} {v : Value} {L : List Fr} {KC : List (Addr × Value)} (h : AwS W w B s v L KC) (n : Int) (hn : (L.length : Int) = n) :
    Calls Tryd.prog 11 #[.pointer (some ⟨s, 0, none⟩)] w fun e w' => e = .returned (.int .i64 n) ∧ AwS W w' B s v L KC := (s_depth h.sk).mono (by
  rintro e w' ⟨rfl, rfl⟩
  rw [hn]
  exact ⟨rfl, h⟩)
theorem a_return {W w : World} {B s : Nat} {v : Value} {L : List Fr} {f : Fr} {KC : List (Addr × Value)} (h : AwS W w B s v (L ++ [f]) KC) (hl : L.length ≤ 1000) (b : Bool) (hb : decide (0 < L.length) = b) :
    Calls Tryd.prog 16 #[.pointer (some ⟨s, 0, none⟩)] w fun e w' => e = .returned (.bool b) ∧ ∃ v', AwS W w' B s v' L KC := (s_return h.sk hl).mono (by
  rintro e w' ⟨rfl, v', h1, h2⟩
  rw [hb]
  exact ⟨rfl, v', h.mv h1 h2⟩)
theorem a_return0 {W w : World} {B s : Nat} {v : Value} {KC : List (Addr × Value)} (h : AwS W w B s v [] KC) :
    Calls Tryd.prog 16 #[.pointer (some ⟨s, 0, none⟩)] w fun e w' => e = .returned (.bool false) ∧ AwS W w' B s v [] KC := (s_return_none h.sk).mono (by
  rintro e w' ⟨rfl, rfl⟩
  exact ⟨rfl, h⟩)
/-- A row of one number that was laid just now. -/
theorem row_one (x : World) (a : Int) : RowAt elI (x.alloc (.cells #[.int .i64 a] 2)) (some ⟨x.heap.size, 0, none⟩) 1 1 [a] :=
  row_blk (E := elI) [a] [.int .i64 a] (heap_alloc_new x _) (by simp) (fun i b hi => by
    refine ⟨[.int .i64 b], rfl, fun q u hq => ?_⟩
    match i, hi with
    | 0, hi => cases hi; match q, hq with
      | 0, hq => exact hq)
theorem two_tk : tkP twoF 1 = true := by decide
theorem two_at0 : fmAt twoM 0 = some twoF := rfl
theorem two_op : oI twoF.p := by unfold twoF oI; simp
theorem two_ms : ∀ f ∈ twoM.fn, ∀ x ∈ f.ms, oU x := by
  intro f hf x hx
  simp [twoM] at hf
  subst hf
  simp [twoF] at hx
  unfold oU
  omega
theorem laid2 (a : Int) : laidL twoF.s.toNat [a] = [a, 0] := rfl
/-- New of two with one argument. -/
theorem a_new {W w : World} (gW : G W w) {fb : Nat} (hm : ModAt w (agTwo fb) twoM) (a : Int) (ab : Nat) (hab : ab = w.heap.size) :
    Calls Tryd.prog 8 #[agTwo fb, .int .i64 0, .slice (some ⟨ab, 0, none⟩) 1 1] (w.alloc (.cells #[.int .i64 a] 2)) fun e w' => ∃ s v sb, e = .returned (.tuple #[.pointer (some ⟨s, 0, none⟩), .int .i64 0]) ∧ AwS W w' (w.heap.size + 1) s v [⟨0, 0, sb, 2, [a, 0]⟩] [] ∧ G w w' := by
  subst hab
  have ga := G.alloc w (.cells #[.int .i64 a] 2)
  refine (new_ok (hm.g ga) 0 two_at0 (row_one w a) two_tk two_op).mono ?_
  rintro e w' ⟨s, v, sb, rfl, h1, h2⟩
  rw [World.size_alloc] at h1
  refine ⟨s, v, sb, rfl, ⟨h1, by have := gW.size; omega, by have := h2.size; rw [World.size_alloc] at this; exact this, (gW.trans ga).trans h2, fun p hp => by cases hp⟩, ga.trans h2⟩
/-- Call of two with one argument. -/
theorem a_call {W w : World} {B s : Nat} {v : Value} {L : List Fr} {KC : List (Addr × Value)} (h : AwS W w B s v L KC) (hL : L.length < 256) {fb : Nat} (hm : ModAt w (agTwo fb) twoM) (a : Int) (ab : Nat) (hab : ab = w.heap.size) :
    Calls Tryd.prog 10 #[.pointer (some ⟨s, 0, none⟩), agTwo fb, .int .i64 0, .slice (some ⟨ab, 0, none⟩) 1 1] (w.alloc (.cells #[.int .i64 a] 2)) fun e w' => e = .returned (.int .i64 0) ∧ ∃ v' sb, AwS W w' B s v' (L ++ [⟨0, 0, sb, 2, [a, 0]⟩]) KC := by
  subst hab
  have ga := G.alloc w (.cells #[.int .i64 a] 2)
  have h' := h.gr ga
  refine (call_ok h'.sk h'.hB (hm.g ga) 0 two_at0 (row_one w a) two_tk hL two_op).mono ?_
  rintro e w' ⟨rfl, sb, v', _, h1, h2⟩
  exact ⟨rfl, v', sb, h'.mv h1 h2⟩
theorem a_callfull {W w : World} {B s : Nat} {v : Value} {L : List Fr} {KC : List (Addr × Value)} (h : AwS W w B s v L KC) (hL : 256 ≤ L.length) {fb : Nat} (hm : ModAt w (agTwo fb) twoM) (a : Int) (ab : Nat) :
    Calls Tryd.prog 10 #[.pointer (some ⟨s, 0, none⟩), agTwo fb, .int .i64 0, .slice (some ⟨ab, 0, none⟩) 1 1] (w.alloc (.cells #[.int .i64 a] 2)) fun e w' => e = .returned (.int .i64 2) ∧ AwS W w' B s v L KC := by
  have ga := G.alloc w (.cells #[.int .i64 a] 2)
  have h' := h.gr ga
  refine (call_full h'.sk (hm.g ga) 0 _ _ _ hL).mono ?_
  rintro e w' ⟨rfl, h1⟩
  exact ⟨rfl, h'.gr h1⟩
end Go.Proofs.YtnfeommkbocgpaaDoor
