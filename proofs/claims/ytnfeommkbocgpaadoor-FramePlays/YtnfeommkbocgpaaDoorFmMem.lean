/- Frames in memory: a row of frames, each with a row of its slots; a Stack over it. -/
import Derived.Test.YtnfeommkbocgpaaDoorCodeGr
import Derived.Test.YtnfeommkbocgpaaDoorCodeRow
import Derived.Laws.OwnMore
import Derived.Laws.CopyOwn
namespace Go.Proofs.YtnfeommkbocgpaaDoor
open Go.RowKit Go.Maps Go.ChangeShapes Go.WideShapes Go.ChangeAt Go.Deep

/-- w' is w but for the blocks that D names, and new ones. -/
structure TrB (w w' : World) (D : Nat → Prop) : Prop where
  os : w'.os = w.os
  tape : w'.tape = w.tape
  output : w'.output = w.output
  size : w.heap.size ≤ w'.heap.size
  block : ∀ k, k < w.heap.size → ¬ D k → w'.heap[k]? = w.heap[k]?
theorem TrB.of_G {w w' : World} (D : Nat → Prop) (g : G w w') : TrB w w' D := ⟨g.os, g.tape, g.output, g.size, fun k hk _ => g.block k hk⟩
theorem TrB.refl (w : World) (D : Nat → Prop) : TrB w w D := TrB.of_G D (G.refl w)
theorem TrB.trans {a b c : World} {D D' : Nat → Prop} (h : TrB a b D) (k : TrB b c D') (hd : ∀ q, q < a.heap.size → D' q → D q) : TrB a c D :=
  ⟨k.os.trans h.os, k.tape.trans h.tape, k.output.trans h.output, Nat.le_trans h.size k.size, fun q h1 h2 => (k.block q (Nat.lt_of_lt_of_le h1 h.size) (fun h3 => h2 (hd q h1 h3))).trans (h.block q h1 h2)⟩
theorem TrB.g {a b : World} {D : Nat → Prop} (h : TrB a b D) (hd : ∀ k, k < a.heap.size → ¬ D k) : G a b := ⟨h.os, h.tape, h.output, h.size, fun k h1 => h.block k h1 (hd k h1)⟩
theorem TrB.below {a b : World} {D : Nat → Prop} (h : TrB a b D) (B : Nat) (hB : B ≤ a.heap.size) (hd : ∀ k, D k → B ≤ k) : Below B a b := ⟨h.os, h.tape, h.output, h.size, fun k h1 => h.block k (by omega) (fun h3 => by have := hd k h3; omega)⟩
theorem TrB.set {a b : World} {D : Nat → Prop} (h : TrB a b D) (x i : Nat) (v : Value) (hx : D x ∨ a.heap.size ≤ x) : TrB a (b.setCell ⟨x, i, none⟩ v) D :=
  ⟨h.os, h.tape, h.output, by rw [World.size_setCell]; exact h.size, fun k h1 h2 => (heap_set _ _ (show k ≠ x from fun e => by subst e; rcases hx with hx | hx; exact h2 hx; omega)).trans (h.block k h1 h2)⟩
theorem TrB.more {a b c : World} {D : Nat → Prop} (h : TrB a b D) (g : G b c) : TrB a c D := ⟨g.os.trans h.os, g.tape.trans h.tape, g.output.trans h.output, Nat.le_trans h.size g.size, fun k h1 h2 => (g.block k (Nat.lt_of_lt_of_le h1 h.size)).trans (h.block k h1 h2)⟩
theorem TrB.cell {w w' : World} {D : Nat → Prop} (h : TrB w w' D) {x : Addr} {v : Value} (hc : w.cell? x = some v) (hx : ¬ D x.block) : w'.cell? x = some v :=
  (World.cell?_of_block (h.block _ (World.block_lt_of_cell? w _ hc) hx)).trans hc

/-- A call: its function, where it stands, where its slots lie and how much room there is, what they hold. -/
structure Fr where
  fn : Int
  pc : Int
  sb : Nat
  sc : Nat
  sl : List Int
def frC (f : Fr) : List Value := [.int .i64 f.fn, .int .i64 f.pc, .slice (some ⟨f.sb, 0, none⟩) f.sl.length f.sc]
def frCs : List Fr → List Value
  | [] => []
  | f :: L => frC f ++ frCs L
theorem frCs_len : ∀ L : List Fr, (frCs L).length = L.length * 3
  | [] => rfl
  | f :: L => by simp [frCs, frC, frCs_len L]; omega
theorem frCs_app : ∀ L M : List Fr, frCs (L ++ M) = frCs L ++ frCs M
  | [], M => rfl
  | f :: L, M => by simp [frCs, frCs_app L M]
theorem frCs_get : ∀ (L : List Fr) (i : Nat) (f : Fr) (j : Nat), L[i]? = some f → j < 3 → (frCs L)[i * 3 + j]? = (frC f)[j]?
  | [], i, f, j, h, _ => by simp at h
  | x :: L, 0, f, j, h, hj => by
    simp at h
    subst h
    rw [Nat.zero_mul, Nat.zero_add]
    show (frC x ++ frCs L)[j]? = _
    rw [List.getElem?_append_left (by simpa [frC] using hj)]
  | x :: L, i + 1, f, j, h, hj => by
    have := frCs_get L i f j (by simpa using h) hj
    rw [← this]
    show (frC x ++ frCs L)[(i + 1) * 3 + j]? = _
    rw [List.getElem?_append_right (by simp [frC]; omega)]
    congr 1
    simp [frC]
    omega
theorem frCs_take (L : List Fr) (f : Fr) : (frCs (L ++ [f])).take (L.length * 3) = frCs L := by
  rw [frCs_app, List.take_append_of_le_length (by rw [frCs_len]; exact Nat.le_refl _), List.take_of_length_le (by rw [frCs_len]; exact Nat.le_refl _)]
theorem frCs_set (L : List Fr) (f : Fr) (j : Nat) (v : Value) (hj : j < 3) : (frCs (L ++ [f])).set (L.length * 3 + j) v = frCs L ++ (frC f).set j v := by
  rw [frCs_app, show frCs [f] = frC f by simp [frCs], List.set_append_right _ _ (by rw [frCs_len]; omega), frCs_len]
  congr 2
  omega

/-- Cells of a row of the call's own, cut short. -/
theorem own_cut {w : World} {B ty sz g n c : Nat} {xs : List Value} (h : w.ownsRow B ty sz (.slice (some ⟨g, 0, none⟩) n c) n xs) (k : Nat) (hk : k ≤ n) : w.ownsRow B ty sz (.slice (some ⟨g, 0, none⟩) k c) k (xs.take (k * sz)) := by
  rcases h.2 with ⟨h', _⟩ | ⟨g', cap', cur, h', hb, hg, hnc, hcm, hcs, htake⟩
  · cases h'
  · cases h'
    have hm : k * sz ≤ n * sz := Nat.mul_le_mul_right _ hk
    refine ⟨by rw [List.length_take, h.1]; omega, Or.inr ⟨g, c, cur, rfl, hb, hg, Nat.le_trans hk hnc, hcm, hcs, ?_⟩⟩
    rw [← htake, List.take_take, Nat.min_eq_left hm]
theorem own_lt {w : World} {B ty sz g n c : Nat} {xs : List Value} (h : w.ownsRow B ty sz (.slice (some ⟨g, 0, none⟩) n c) n xs) : g < w.heap.size := by
  rcases h.2 with ⟨h', _⟩ | ⟨g', cap', cur, h', hb, hg, _⟩
  · cases h'
  · cases h'
    exact (Array.getElem?_eq_some_iff.1 hg).1
theorem own_lo {w : World} {B ty sz g n c : Nat} {xs : List Value} (h : w.ownsRow B ty sz (.slice (some ⟨g, 0, none⟩) n c) n xs) : B ≤ g := own_blk h g rfl
theorem own_keep1 {w w' : World} {B ty sz g n c : Nat} {xs : List Value} (h : w.ownsRow B ty sz (.slice (some ⟨g, 0, none⟩) n c) n xs) (e : w'.heap[g]? = w.heap[g]?) : w'.ownsRow B ty sz (.slice (some ⟨g, 0, none⟩) n c) n xs := by
  refine ⟨h.1, ?_⟩
  rcases h.2 with ⟨h', _⟩ | ⟨g', cap', cur, h', hb, hg, hr⟩
  · cases h'
  · cases h'
    exact Or.inr ⟨g, c, cur, rfl, hb, e.trans hg, hr⟩
theorem own_keepv {w w' : World} {B ty sz n : Nat} {v : Value} {xs : List Value} (h : w.ownsRow B ty sz v n xs) (e : ∀ q, v.ownBlock = some q → w'.heap[q]? = w.heap[q]?) : w'.ownsRow B ty sz v n xs := by
  refine ⟨h.1, ?_⟩
  rcases h.2 with h' | ⟨g', cap', cur, h', hb, hg, hr⟩
  · exact Or.inl h'
  · exact Or.inr ⟨g', cap', cur, h', hb, (e g' (by rw [h']; rfl)).trans hg, hr⟩

/-- The row v of the frames L, in blocks from B on. -/
structure RK (w : World) (B : Nat) (v : Value) (L : List Fr) : Prop where
  own : w.ownsRow B 46 3 v L.length (frCs L)
  sl : ∀ f ∈ L, w.ownsRow B 2 1 (.slice (some ⟨f.sb, 0, none⟩) f.sl.length f.sc) f.sl.length (f.sl.map (Value.int .i64))
  kb : ∀ q, v.ownBlock = some q → ∀ f ∈ L, f.sb ≠ q
  nd : (L.map Fr.sb).Nodup
def RKb (v : Value) (L : List Fr) (k : Nat) : Prop := v.ownBlock = some k ∨ ∃ f ∈ L, f.sb = k
theorem RK.nil (w : World) (B : Nat) : RK w B (.slice none 0 0) [] := ⟨⟨rfl, Or.inl ⟨rfl, rfl⟩⟩, (fun f h => by cases h), (fun q h => by cases h), List.nodup_nil⟩
theorem RK.keep {w w' : World} {B : Nat} {v : Value} {L : List Fr} (h : RK w B v L) (e : ∀ k, RKb v L k → w'.heap[k]? = w.heap[k]?) : RK w' B v L :=
  ⟨own_keepv h.own (fun q hq => e q (Or.inl hq)), fun f hf => own_keep1 (h.sl f hf) (e f.sb (Or.inr ⟨f, hf, rfl⟩)), h.kb, h.nd⟩
theorem RK.lt {w : World} {B : Nat} {v : Value} {L : List Fr} (h : RK w B v L) : ∀ k, RKb v L k → k < w.heap.size ∧ B ≤ k := by
  rintro k (hk | ⟨f, hf, rfl⟩)
  · rcases h.own.2 with ⟨rfl, _⟩ | ⟨g, cap, cur, rfl, hb, hg, _⟩
    · cases hk
    · cases hk
      exact ⟨(Array.getElem?_eq_some_iff.1 hg).1, hb⟩
  · exact ⟨own_lt (h.sl f hf), own_lo (h.sl f hf)⟩
theorem RK.g {w w' : World} {B : Nat} {v : Value} {L : List Fr} (h : RK w B v L) (g : G w w') : RK w' B v L := h.keep fun k hk => g.block k (h.lt k hk).1
theorem RK.tr {w w' : World} {B : Nat} {v : Value} {L : List Fr} {D : Nat → Prop} (h : RK w B v L) (g : TrB w w' D) (hd : ∀ k, RKb v L k → ¬ D k) : RK w' B v L := h.keep fun k hk => g.block k (h.lt k hk).1 (hd k hk)
theorem RK.low {w : World} {B B' : Nat} {v : Value} {L : List Fr} (h : RK w B v L) (hb : B' ≤ B) : RK w B' v L := by
  have key : ∀ {ty sz n : Nat} {v : Value} {xs : List Value}, w.ownsRow B ty sz v n xs → w.ownsRow B' ty sz v n xs := fun h => by
    refine ⟨h.1, ?_⟩
    rcases h.2 with h' | ⟨g', cap', cur, h', hb2, hr⟩
    · exact Or.inl h'
    · exact Or.inr ⟨g', cap', cur, h', Nat.le_trans hb hb2, hr⟩
  exact ⟨key h.own, fun f hf => key (h.sl f hf), h.kb, h.nd⟩
/-- The row's value. -/
theorem RK.v {w : World} {B : Nat} {v : Value} {L : List Fr} (h : RK w B v L) : ∃ ao c, v = .slice ao L.length c ∧ (0 < L.length → ∃ kb, ao = some ⟨kb, 0, none⟩) := by
  rcases h.own.2 with ⟨rfl, h0⟩ | ⟨g, cap, cur, rfl, _⟩
  · rw [h0]
    exact ⟨none, 0, rfl, fun h => absurd h (by omega)⟩
  · exact ⟨_, _, rfl, fun _ => ⟨g, rfl⟩⟩
theorem RK.vt {w : World} {B : Nat} {v : Value} {L : List Fr} {f : Fr} (h : RK w B v (L ++ [f])) : ∃ kb c, v = .slice (some ⟨kb, 0, none⟩) (L.length + 1) c := by
  obtain ⟨ao, c, e, h1⟩ := h.v
  obtain ⟨kb, rfl⟩ := h1 (by simp)
  exact ⟨kb, c, by simpa using e⟩
/-- A frame of it. -/
theorem RK.get {w : World} {B kb n c : Nat} {L : List Fr} (h : RK w B (.slice (some ⟨kb, 0, none⟩) n c) L) {i : Nat} {f : Fr} (hi : L[i]? = some f) :
    w.cell? ⟨kb, i * 3, none⟩ = some (.int .i64 f.fn) ∧ w.cell? ⟨kb, i * 3 + 1, none⟩ = some (.int .i64 f.pc) ∧ w.cell? ⟨kb, i * 3 + 2, none⟩ = some (.slice (some ⟨f.sb, 0, none⟩) f.sl.length f.sc) := by
  have hl := (List.getElem?_eq_some_iff.1 hi).1
  obtain ⟨ao, c', e, _⟩ := h.v
  cases e
  have h0 := World.ownsRow.cellAt h.own (i * 3 + 0) (by omega)
  have h1 := World.ownsRow.cellAt h.own (i * 3 + 1) (by omega)
  have h2 := World.ownsRow.cellAt h.own (i * 3 + 2) (by omega)
  rw [frCs_get L i f _ hi (by decide)] at h0 h1 h2
  exact ⟨h0, h1, h2⟩
theorem RK.fro {w : World} {B kb n c : Nat} {L : List Fr} (h : RK w B (.slice (some ⟨kb, 0, none⟩) n c) L) (i : Nat) : w.frozen? ⟨kb, i, none⟩ = false := by
  obtain ⟨ao, c', e, _⟩ := h.v
  cases e
  exact World.ownsRow.frozenAt h.own i
/-- A slot of it. -/
theorem RK.slot {w : World} {B : Nat} {v : Value} {L : List Fr} (h : RK w B v L) {f : Fr} (hf : f ∈ L) {j : Nat} {x : Int} (hj : f.sl[j]? = some x) : w.cell? ⟨f.sb, j, none⟩ = some (.int .i64 x) := by
  have hl := (List.getElem?_eq_some_iff.1 hj).1
  have := World.ownsRow.cellAt (h.sl f hf) j (by omega)
  rw [this, List.getElem?_map, hj]
  rfl
theorem RK.sfro {w : World} {B : Nat} {v : Value} {L : List Fr} (h : RK w B v L) {f : Fr} (hf : f ∈ L) (j : Nat) : w.frozen? ⟨f.sb, j, none⟩ = false := World.ownsRow.frozenAt (h.sl f hf) j
/-- The slots of a frame, as ints that lie there. -/
theorem RK.row {w : World} {B : Nat} {v : Value} {L : List Fr} (h : RK w B v L) {f : Fr} (hf : f ∈ L) (hn : f.sl.length ≤ maxLen) : RowAt elI w (some ⟨f.sb, 0, none⟩) f.sl.length f.sc f.sl := by
  refine ⟨rfl, hn, (fun e => by cases e), Or.inr ⟨f.sb, 0, rfl, own_lt (h.sl f hf), fun i a hi => ⟨[.int .i64 a], rfl, fun q u hq => ?_⟩⟩⟩
  match q, hq with
  | 0, hq =>
    simp at hq
    subst hq
    have := h.slot hf hi
    simpa [elI] using this
  | q + 1, hq => simp at hq
theorem nd_last {L : List Fr} {f : Fr} (h : ((L ++ [f]).map Fr.sb).Nodup) : (L.map Fr.sb).Nodup ∧ ∀ g ∈ L, g.sb ≠ f.sb := by
  rw [List.map_append, List.nodup_append] at h
  exact ⟨h.1, fun g hg e => h.2.2 g.sb (List.mem_map.2 ⟨g, hg, rfl⟩) f.sb (by simp) e⟩
theorem nd_app {L : List Fr} {f : Fr} (h : (L.map Fr.sb).Nodup) (h2 : ∀ g ∈ L, g.sb ≠ f.sb) : ((L ++ [f]).map Fr.sb).Nodup := by
  rw [List.map_append, List.nodup_append]
  refine ⟨h, by simp, fun a ha b hb e => ?_⟩
  obtain ⟨g, hg, rfl⟩ := List.mem_map.1 ha
  simp at hb
  subst hb
  exact h2 g hg e
/-- The top's PC is set. -/
theorem RK.jump {w : World} {B kb n c : Nat} {L : List Fr} {f : Fr} (h : RK w B (.slice (some ⟨kb, 0, none⟩) n c) (L ++ [f])) (p : Int) : RK (w.setCell ⟨kb, L.length * 3 + 1, none⟩ (.int .i64 p)) B (.slice (some ⟨kb, 0, none⟩) n c) (L ++ [⟨f.fn, p, f.sb, f.sc, f.sl⟩]) := by
  obtain ⟨ao, c', e, _⟩ := h.v
  cases e
  have hn := nd_last h.nd
  refine ⟨?_, fun g hg => ?_, fun q hq g hg => ?_, nd_app hn.1 hn.2⟩
  · have := (World.ownsRow.stored h.own (L.length * 3 + 1) (.int .i64 p)).1
    rw [frCs_set L f 1 _ (by decide)] at this
    rw [frCs_app]
    simpa [frCs, frC] using this
  · rcases List.mem_append.1 hg with hg | hg
    · exact own_keep1 (h.sl g (List.mem_append_left _ hg)) (heap_set _ _ (h.kb kb rfl g (List.mem_append_left _ hg)))
    · simp at hg
      subst hg
      exact own_keep1 (h.sl f (List.mem_append_right _ (by simp))) (heap_set _ _ (h.kb kb rfl f (List.mem_append_right _ (by simp))))
  · rcases List.mem_append.1 hg with hg | hg
    · exact h.kb q hq g (List.mem_append_left _ hg)
    · simp at hg
      subst hg
      exact h.kb q hq f (List.mem_append_right _ (by simp))
/-- A slot of the top is set. -/
theorem RK.set {w : World} {B : Nat} {v : Value} {L : List Fr} {f : Fr} (h : RK w B v (L ++ [f])) (j : Nat) (x : Int) : RK (w.setCell ⟨f.sb, j, none⟩ (.int .i64 x)) B v (L ++ [⟨f.fn, f.pc, f.sb, f.sc, f.sl.set j x⟩]) := by
  have hn := nd_last h.nd
  have hm : f ∈ L ++ [f] := List.mem_append_right _ (by simp)
  refine ⟨?_, fun g hg => ?_, fun q hq g hg => ?_, nd_app hn.1 hn.2⟩
  · have := own_keepv (w' := w.setCell ⟨f.sb, j, none⟩ (.int .i64 x)) h.own (fun q hq => heap_set _ _ (fun e => h.kb q hq f hm e.symm))
    rw [frCs_app] at this ⊢
    simpa [frCs, frC] using this
  · rcases List.mem_append.1 hg with hg | hg
    · exact own_keep1 (h.sl g (List.mem_append_left _ hg)) (heap_set _ _ (hn.2 g hg))
    · simp at hg
      subst hg
      have := (World.ownsRow.stored (h.sl f hm) j (.int .i64 x)).1
      simp only [List.length_set, List.map_set]
      exact this
  · rcases List.mem_append.1 hg with hg | hg
    · exact h.kb q hq g (List.mem_append_left _ hg)
    · simp at hg
      subst hg
      exact h.kb q hq f hm
/-- The top is taken away. -/
theorem RK.pop {w : World} {B kb n c : Nat} {L : List Fr} {f : Fr} (h : RK w B (.slice (some ⟨kb, 0, none⟩) n c) (L ++ [f])) : RK w B (.slice (some ⟨kb, 0, none⟩) L.length c) L := by
  obtain ⟨ao, c', e, _⟩ := h.v
  cases e
  refine ⟨?_, fun g hg => h.sl g (List.mem_append_left _ hg), fun q hq g hg => h.kb q hq g (List.mem_append_left _ hg), (nd_last h.nd).1⟩
  have := own_cut h.own L.length (by simp)
  rw [frCs_take] at this
  exact this
/-- What is set behind the frames that count. -/
theorem RK.past {w : World} {B kb n c : Nat} {L : List Fr} (h : RK w B (.slice (some ⟨kb, 0, none⟩) n c) L) (j : Nat) (hj : L.length * 3 ≤ j) (v : Value) : RK (w.setCell ⟨kb, j, none⟩ v) B (.slice (some ⟨kb, 0, none⟩) n c) L := by
  obtain ⟨ao, c', e, _⟩ := h.v
  cases e
  refine ⟨?_, fun g hg => own_keep1 (h.sl g hg) (heap_set _ _ (h.kb kb rfl g hg)), h.kb, h.nd⟩
  have := (World.ownsRow.stored h.own j v).1
  rwa [List.set_eq_of_length_le (by rw [frCs_len]; exact hj)] at this
theorem info_frame : (Tryd.prog.info? 46).map (fun i => (i.zero, i.size, i.bytes)) = some (some (.agg #[.int .i64 0, .int .i64 0, .slice none 0 0]), 3, 40) := by kernel_rfl
/-- One more frame: its cells lie in a block nb, its slots in a block of its own. -/
theorem RK.app {w x : World} {B : Nat} {v : Value} {L : List Fr} (h : RK w B v L) (g : G w x) (hB : B ≤ w.heap.size) (f : Fr) (hs : x.ownsRow B 2 1 (.slice (some ⟨f.sb, 0, none⟩) f.sl.length f.sc) f.sl.length (f.sl.map (Value.int .i64))) (hsb : w.heap.size ≤ f.sb) (nb : Nat)
    (hn : ∀ q u, (frC f)[q]? = some u → x.cell? ((⟨nb, 0, none⟩ : Addr).add q) = some u) (hl : L.length ≤ 100000) :
    ∃ v' x3, (Builtin.append_ #[48, 48] 48 #[v, .slice (some ⟨nb, 0, none⟩) 1 1]).run Tryd.prog x = .ok v' x3 ∧ RK x3 B v' (L ++ [f]) ∧ TrB x x3 (fun k => v.ownBlock = some k) ∧ (∀ q, v'.ownBlock = some q → v.ownBlock = some q ∨ x.heap.size ≤ q) := by
  obtain ⟨i, hi, hz, hsz, hby⟩ := info_parts info_frame
  have hx := h.g g
  have hsx := g.size
  obtain ⟨v', x3, hrun, r1, r2, _, r4⟩ := run_append_own_at (P := Tryd.prog) x B 48 48 46 i _ 3 40 Tryd.underlying48 hi hz hsz hby rfl (by decide) v L.length (frCs L) hx.own ⟨nb, 0, none⟩ 1 1 (frC f) rfl hn
    (fun u hu => by simp [frC] at hu; rcases hu with rfl | rfl | rfl <;> rfl) (by unfold maxLen; omega) (by omega) (by omega)
  have hlt := h.lt
  have hv' : ∀ q, v'.ownBlock = some q → v.ownBlock = some q ∨ x.heap.size ≤ q := fun q hq => by
    rcases r4 with r4 | r4
    · rw [r4] at hq; exact Or.inl hq
    · rw [r4] at hq; cases hq; exact Or.inr (Nat.le_refl _)
  refine ⟨v', x3, hrun, ⟨?_, fun y hy => ?_, fun q hq y hy => ?_, nd_app h.nd (fun y hy e => ?_)⟩, ⟨r2.os, r2.tape, r2.output, r2.size, fun k hk hd => r2.block k hk (fun e => hd e.symm)⟩, hv'⟩
  · rw [frCs_app, List.length_append]
    simpa [frCs] using r1
  · rcases List.mem_append.1 hy with hy | hy
    · exact own_keep1 (hx.sl y hy) (r2.block _ (own_lt (hx.sl y hy)) (fun e => h.kb _ e.symm y hy rfl))
    · simp at hy
      subst hy
      exact own_keep1 hs (r2.block _ (own_lt hs) (fun e => by have := (hlt _ (Or.inl e.symm)).1; omega))
  · rcases List.mem_append.1 hy with hy | hy
    · rcases hv' q hq with e | e
      · exact h.kb q e y hy
      · have := own_lt (hx.sl y hy); omega
    · simp at hy
      subst hy
      rcases hv' q hq with e | e
      · have := (hlt _ (Or.inl e)).1; omega
      · have := own_lt hs; omega
  · have := own_lt (h.sl y hy)
    omega

/-- A Stack at s. -/
structure SK (w : World) (B s : Nat) (v : Value) (L : List Fr) : Prop where
  rk : RK w B v L
  c0 : w.cell? ⟨s, 0, none⟩ = some v
  f0 : w.frozen? ⟨s, 0, none⟩ = false
  hs : B ≤ s
  ns : ¬ RKb v L s
def SKb (s : Nat) (v : Value) (L : List Fr) (k : Nat) : Prop := k = s ∨ RKb v L k
theorem SK.lts {w : World} {B s : Nat} {v : Value} {L : List Fr} (h : SK w B s v L) : s < w.heap.size := World.block_lt_of_cell? w _ h.c0
theorem SK.lt {w : World} {B s : Nat} {v : Value} {L : List Fr} (h : SK w B s v L) : ∀ k, SKb s v L k → k < w.heap.size ∧ B ≤ k := by
  rintro k (rfl | hk)
  · exact ⟨h.lts, h.hs⟩
  · exact h.rk.lt k hk
theorem SK.keep {w w' : World} {B s : Nat} {v : Value} {L : List Fr} (h : SK w B s v L) (e : ∀ k, SKb s v L k → w'.heap[k]? = w.heap[k]?) : SK w' B s v L :=
  ⟨h.rk.keep fun k hk => e k (Or.inr hk), (World.cell?_of_block (a := ⟨s, 0, none⟩) (e s (Or.inl rfl))).trans h.c0, (World.frozen?_of_block (a := ⟨s, 0, none⟩) (e s (Or.inl rfl))).trans h.f0, h.hs, h.ns⟩
theorem SK.g {w w' : World} {B s : Nat} {v : Value} {L : List Fr} (h : SK w B s v L) (g : G w w') : SK w' B s v L := h.keep fun k hk => g.block k (h.lt k hk).1
theorem SK.tr {w w' : World} {B s : Nat} {v : Value} {L : List Fr} {D : Nat → Prop} (h : SK w B s v L) (g : TrB w w' D) (hd : ∀ k, SKb s v L k → ¬ D k) : SK w' B s v L := h.keep fun k hk => g.block k (h.lt k hk).1 (hd k hk)
end Go.Proofs.YtnfeommkbocgpaaDoor
