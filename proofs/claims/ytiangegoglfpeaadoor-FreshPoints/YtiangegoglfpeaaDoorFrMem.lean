/- What is known, in memory; the row of states. -/
import Derived.Test.YtiangegoglfpeaaDoorFrSt
import Derived.Test.YtiangegoglfpeaaDoorLiveNw
import Derived.Test.YtiangegoglfpeaaDoorCodeRow
import Derived.Deep.MidRow
import Derived.Laws.BitsAllLaws
namespace Go.Proofs.YtiangegoglfpeaaDoor
set_option maxRecDepth 100000
open Go.RowKit Go.Maps Go.ChangeShapes Go.WideShapes Go.ChangeAt Go.Deep

/-- w' is w but for the blocks that D names, and new ones. -/
structure TrD (w w' : World) (D : Nat → Prop) : Prop where
  os : w'.os = w.os
  tape : w'.tape = w.tape
  output : w'.output = w.output
  size : w.heap.size ≤ w'.heap.size
  block : ∀ k, k < w.heap.size → ¬ D k → w'.heap[k]? = w.heap[k]?
theorem TrD.of_G {w w' : World} (D : Nat → Prop) (g : G w w') : TrD w w' D := ⟨g.os, g.tape, g.output, g.size, fun k hk _ => g.block k hk⟩
theorem TrD.refl (w : World) (D : Nat → Prop) : TrD w w D := TrD.of_G D (G.refl w)
theorem TrD.trans {a b c : World} {D : Nat → Prop} (h : TrD a b D) (k : TrD b c D) : TrD a c D :=
  ⟨k.os.trans h.os, k.tape.trans h.tape, k.output.trans h.output, Nat.le_trans h.size k.size, fun q h1 h2 => (k.block q (Nat.lt_of_lt_of_le h1 h.size) h2).trans (h.block q h1 h2)⟩
theorem TrD.mono {a b : World} {D D' : Nat → Prop} (h : TrD a b D) (hd : ∀ k, k < a.heap.size → D k → D' k) : TrD a b D' := ⟨h.os, h.tape, h.output, h.size, fun k h1 h2 => h.block k h1 fun h3 => h2 (hd k h1 h3)⟩
theorem TrD.g {a b : World} {D : Nat → Prop} (h : TrD a b D) (hd : ∀ k, k < a.heap.size → ¬ D k) : G a b := ⟨h.os, h.tape, h.output, h.size, fun k h1 => h.block k h1 (hd k h1)⟩
theorem TrD.set {a b : World} {D : Nat → Prop} (h : TrD a b D) (x i : Nat) (v : Value) (hx : D x ∨ a.heap.size ≤ x) : TrD a (b.setCell ⟨x, i, none⟩ v) D :=
  ⟨h.os, h.tape, h.output, by rw [World.size_setCell]; exact h.size, fun k h1 h2 => (heap_set _ _ (show k ≠ x from fun e => by subst e; rcases hx with hx | hx; exact h2 hx; omega)).trans (h.block k h1 h2)⟩
theorem TrD.cell {w w' : World} {D : Nat → Prop} (h : TrD w w' D) {x : Addr} {v : Value} (hc : w.cell? x = some v) (hx : ¬ D x.block) : w'.cell? x = some v :=
  (World.cell?_of_block (h.block _ (World.block_lt_of_cell? w _ hc) hx)).trans hc
theorem fro_of_block {w w' : World} {x : Addr} (e : w'.heap[x.block]? = w.heap[x.block]?) : w'.frozen? x = w.frozen? x := by
  unfold World.frozen?
  rw [e]

/-- The cells of what is known. -/
def knC (k : Kn) : List Value := .int .u64 (k.y : Int) :: .int .u64 (k.o : Int) :: k.ws.map fun x : Nat => Value.int .u64 (x : Int)
theorem knC_len {k : Kn} (h : k.Ok) : (knC k).length = 66 := by simp [knC, h.n]
structure KnAt (w : World) (b : Nat) (k : Kn) : Prop where
  r : w.rangeAt b 0 (knC k)
  t : w.there b 0 66
  ok : k.Ok
theorem there_keep {w w' : World} {b n : Nat} (h : w.there b 0 n) (e : w'.heap[b]? = w.heap[b]?) : w'.there b 0 n := fun j hj =>
  ⟨by rw [World.cell?_of_block (a := ⟨b, 0 + j, none⟩) e]; exact (h j hj).1, by rw [fro_of_block (x := ⟨b, 0 + j, none⟩) e]; exact (h j hj).2⟩
theorem KnAt.keep {w w' : World} {b : Nat} {k : Kn} (h : KnAt w b k) (e : w'.heap[b]? = w.heap[b]?) : KnAt w' b k :=
  ⟨fun j v hv => (World.cell?_of_block (a := ⟨b, 0 + j, none⟩) e).trans (h.r j v hv), there_keep h.t e, h.ok⟩
theorem KnAt.lt {w : World} {b : Nat} {k : Kn} (h : KnAt w b k) : b < w.heap.size := World.block_lt_of_cell? w _ (h.r 0 _ rfl)
theorem KnAt.g {w w' : World} {b : Nat} {k : Kn} (h : KnAt w b k) (g : G w w') : KnAt w' b k := h.keep (g.block b h.lt)
theorem KnAt.tr {w w' : World} {b : Nat} {k : Kn} {D : Nat → Prop} (h : KnAt w b k) (g : TrD w w' D) (hd : ¬ D b) : KnAt w' b k := h.keep (g.block b h.lt hd)
theorem KnAt.y {w : World} {b : Nat} {k : Kn} (h : KnAt w b k) : w.cell? ⟨b, 0, none⟩ = some (.int .u64 (k.y : Int)) := h.r 0 _ rfl
theorem KnAt.o {w : World} {b : Nat} {k : Kn} (h : KnAt w b k) : w.cell? ⟨b, 1, none⟩ = some (.int .u64 (k.o : Int)) := h.r 1 _ rfl
theorem KnAt.w {w : World} {b : Nat} {k : Kn} (h : KnAt w b k) {i x : Nat} (hx : k.ws[i]? = some x) : w.cell? ⟨b, 2 + i, none⟩ = some (.int .u64 (x : Int)) := by
  rw [Nat.add_comm 2 i]
  have := h.r (i + 2) (.int .u64 (x : Int)) (by simp [knC, hx])
  simpa using this
theorem KnAt.fro {w : World} {b : Nat} {k : Kn} (h : KnAt w b k) (i : Nat) (hi : i < 66) : w.frozen? ⟨b, i, none⟩ = false := by
  have := (h.t i hi).2
  simpa using this
theorem range_set {w : World} {b i : Nat} {cs : List Value} (h : w.rangeAt b 0 cs) (hi : i < cs.length) (v : Value) : (w.setCell ⟨b, i, none⟩ v).rangeAt b 0 (cs.set i v) := fun j u hu => by
  rw [List.getElem?_set] at hu
  by_cases e : i = j
  · subst e
    simp [hi] at hu
    subst hu
    have := h i _ (List.getElem?_eq_getElem hi)
    rw [Nat.zero_add] at this ⊢
    exact cell_same _ this
  · simp [e] at hu
    rw [cell_other _ (Or.inr (by omega))]
    exact h j u hu
theorem there_set {w : World} {b b' i n : Nat} (h : w.there b 0 n) (v : Value) : (w.setCell ⟨b', i, none⟩ v).there b 0 n := by
  have := World.there_setCells h b' i [v]
  simpa [World.setCells] using this
theorem KnAt.setY {w : World} {b : Nat} {k : Kn} (h : KnAt w b k) (y : Nat) (hy : y < 18446744073709551616) : KnAt (w.setCell ⟨b, 0, none⟩ (.int .u64 (y : Int))) b ⟨y, k.o, k.ws⟩ :=
  ⟨range_set (i := 0) h.r (by rw [knC_len h.ok]; decide) _, there_set h.t _, ⟨hy, h.ok.o, h.ok.n, h.ok.w⟩⟩
theorem KnAt.setO {w : World} {b : Nat} {k : Kn} (h : KnAt w b k) (o : Nat) (ho : o < 18446744073709551616) : KnAt (w.setCell ⟨b, 1, none⟩ (.int .u64 (o : Int))) b ⟨k.y, o, k.ws⟩ :=
  ⟨range_set (i := 1) h.r (by rw [knC_len h.ok]; decide) _, there_set h.t _, ⟨h.ok.y, ho, h.ok.n, h.ok.w⟩⟩
theorem KnAt.setW {w : World} {b : Nat} {k : Kn} (h : KnAt w b k) (i x : Nat) (hi : i < 64) (hx : x < 18446744073709551616) : KnAt (w.setCell ⟨b, 2 + i, none⟩ (.int .u64 (x : Int))) b ⟨k.y, k.o, k.ws.set i x⟩ := by
  rw [Nat.add_comm 2 i]
  refine ⟨?_, there_set h.t _, ⟨h.ok.y, h.ok.o, by simp [h.ok.n], fun z hz => ?_⟩⟩
  · have := range_set (i := i + 2) h.r (by rw [knC_len h.ok]; omega) (.int .u64 (x : Int))
    simpa [knC, List.map_set] using this
  · rcases List.mem_or_eq_of_mem_set hz with hz | rfl
    · exact h.ok.w z hz
    · exact hx
theorem info_known : (Tryd.prog.info? 73).map (·.size) = some 66 := by kernel_rfl
/-- The whole of it, read. -/
theorem load_known {w : World} {b : Nat} {k : Kn} (h : KnAt w b k) : (Instr.loadAt 73 (.pointer (some ⟨b, 0, none⟩))).run Tryd.prog w = .ok (.agg (knC k).toArray) w :=
  run_loadAt_mid w b 0 73 (knC k) _ h.r Tryd.underlying73 rfl (by rw [knC_len h.ok]; exact info_known)
theorem kn_one (k : Kn) : (knC k).all (fun v => v.oneCell') = true := by
  simp [knC, Value.oneCell']
end Go.Proofs.YtiangegoglfpeaaDoor
