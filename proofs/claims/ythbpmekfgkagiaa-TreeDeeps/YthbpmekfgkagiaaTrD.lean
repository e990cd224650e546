/- Package gantlinelaw20: a chain of unary signs, and TreeDeeps. -/
import Derived.Test.YthbpmekfgkagiaaTrV
namespace Go.Proofs.Ythbpmekfgkagiaa
set_option maxRecDepth 100000
open Go.RowKit Go.Maps Go.ChangeShapes Go.WideShapes Go.ChangeAt Go.Deep

def chainT (sg : ByteArray) : Nat → T1
  | 0 => .leaf kNum sOne 0
  | n + 1 => .one sg 0 (chainT sg n)
theorem chain_k (sg : ByteArray) : ∀ n, (chainT sg n).k = kNum ∨ (chainT sg n).k = kUn ∨ (chainT sg n).k = kBin
  | 0 => Or.inl rfl
  | _ + 1 => Or.inr (Or.inl rfl)
theorem chain_ok (sg : ByteArray) : ∀ n, (chainT sg n).ok
  | 0 => Or.inl rfl
  | n + 1 => ⟨chain_k sg n, chain_ok sg n⟩
theorem chain_sz (sg : ByteArray) : ∀ n, szP (chainT sg n) = n + 1
  | 0 => rfl
  | n + 1 => by show 1 + szP (chainT sg n) = n + 1 + 1; rw [chain_sz sg n]; omega
theorem chain_dp (sg : ByteArray) : ∀ n, dpP (chainT sg n) = n + 1
  | 0 => rfl
  | n + 1 => by show dpP (chainT sg n) + 1 = n + 1 + 1; rw [chain_dp sg n]
def wrapL (sg x : List UInt8) : List UInt8 := [40] ++ (sg ++ ([32] ++ (x ++ [41])))
def wrapN (sg x : List UInt8) : Nat → List UInt8
  | 0 => x
  | k + 1 => wrapL sg (wrapN sg x k)
theorem wrapN_len (sg x : List UInt8) : ∀ k, (wrapN sg x k).length = x.length + k * (sg.length + 3)
  | 0 => by simp [wrapN]
  | k + 1 => by
    show (wrapL sg (wrapN sg x k)).length = _
    unfold wrapL
    simp only [List.length_append, List.length_cons, List.length_nil, wrapN_len sg x k]
    rw [Nat.add_mul]; omega
theorem chain_sh (sg : ByteArray) : ∀ n j, j ≤ 200 → shP j (chainT sg n) = wrapN sg.data.toList (if 200 - j ≤ n then [] else [49]) (min n (200 - j))
  | 0, j, hj => by
    show (if 199 < j then [] else if kNum = kNum then sOne.data.toList else []) = _
    by_cases h : 199 < j
    · rw [if_pos h, if_pos (by omega), show min 0 (200 - j) = 0 by omega]; rfl
    · rw [if_neg h, if_pos rfl, if_neg (by omega), show min 0 (200 - j) = 0 by omega]; rfl
  | n + 1, j, hj => by
    show (if 199 < j then [] else [40] ++ (sg.data.toList ++ ([32] ++ (shP (j + 1) (chainT sg n) ++ [41])))) = _
    by_cases h : 199 < j
    · rw [if_pos h, if_pos (by omega), show min (n + 1) (200 - j) = 0 by omega]; rfl
    · rw [if_neg h, chain_sh sg n (j + 1) (by omega), show min (n + 1) (200 - j) = min n (200 - (j + 1)) + 1 by omega]
      by_cases h2 : 200 - j ≤ n + 1
      · rw [if_pos h2, if_pos (by omega)]; rfl
      · rw [if_neg h2, if_neg (by omega)]; rfl
/-- A chain in memory, out of the block tb. -/
def CAt (w : World) (B tb : Nat) (sg : ByteArray) : Nat → Value → Prop
  | 0, kv => ∃ ao c, kv = .slice ao 0 c
  | n + 1, kv => ∃ g c kv1, kv = .slice (some ⟨g, 0, none⟩) 1 c ∧ g < B ∧ g ≠ tb ∧ (∀ i u, (ndL (chainT sg n).k (chainT sg n).x (chainT sg n).a kv1)[i]? = some u → w.cell? ⟨g, i, none⟩ = some u) ∧ CAt w B tb sg n kv1
theorem CAt.tat {w : World} {B tb : Nat} {sg : ByteArray} : ∀ n kv, CAt w B tb sg n kv → TAt w B (chainT sg n) kv
  | 0, _, h => h
  | n + 1, _, ⟨g, c, kv1, e, hg, _, hc, ht⟩ => ⟨g, c, kv1, e, hg, hc, CAt.tat n kv1 ht⟩
theorem CAt.keep {w y : World} {B B' tb : Nat} {sg : ByteArray} (hB : B ≤ B') (h : ∀ q, q < B → q ≠ tb → y.heap[q]? = w.heap[q]?) : ∀ n kv, CAt w B tb sg n kv → CAt y B' tb sg n kv
  | 0, _, q => q
  | n + 1, _, ⟨g, c, kv1, e, hg, hn, hc, ht⟩ => ⟨g, c, kv1, e, Nat.lt_of_lt_of_le hg hB, hn, fun i u hu => (World.cell?_of_block (a := ⟨g, i, none⟩) (h g hg hn)).trans (hc i u hu), CAt.keep hB h n kv1 ht⟩
/-- The law's own box. -/
def DL (w : World) (tb : Nat) (sg : ByteArray) (n : Nat) (y : World) : Prop := G w y ∧ w.heap.size ≤ tb ∧ ∃ kv, y.heap[tb]? = some (.cells (ndL (chainT sg n).k (chainT sg n).x (chainT sg n).a kv) 26 (0, 0)) ∧ CAt y y.heap.size tb sg n kv
theorem DL.lt {w y : World} {tb : Nat} {sg : ByteArray} {n : Nat} (h : DL w tb sg n y) : tb < y.heap.size := by
  obtain ⟨_, _, kv, h, _⟩ := h
  rcases Nat.lt_or_ge tb y.heap.size with h' | h'
  · exact h'
  · rw [Array.getElem?_eq_none h'] at h; cases h
theorem CAt.sl {w : World} {B tb : Nat} {sg : ByteArray} {n : Nat} {kv : Value} (h : CAt w B tb sg n kv) : ∃ ao m c, kv = .slice ao m c := TAt.sl _ _ h.tat
theorem dl_step {w y : World} {tb : Nat} {sg : ByteArray} {n : Nat} {kv : Value} (h : DL w tb sg n y) (hb : y.heap[tb]? = some (.cells (ndL (chainT sg n).k (chainT sg n).x (chainT sg n).a kv) 26 (0, 0))) (hc : CAt y y.heap.size tb sg n kv) :
    DL w tb sg (n + 1) (((((y.alloc (.cells (ndL (chainT sg n).k (chainT sg n).x (chainT sg n).a kv) 26)).setCell ⟨tb, 0, none⟩ (.string kUn)).setCell ⟨tb, 1, none⟩ (.string sg)).setCell ⟨tb, 2, none⟩ (.int .i64 0)).setCell ⟨tb, 3, none⟩ (.slice (some ⟨y.heap.size, 0, none⟩) 1 1)) := by
  have hlt := h.lt
  obtain ⟨g, hw, _⟩ := h
  obtain ⟨Y, hY⟩ : ∃ Y, Y = y.alloc (.cells (ndL (chainT sg n).k (chainT sg n).x (chainT sg n).a kv) 26) := ⟨_, rfl⟩
  have gY : G y Y := by rw [hY]; exact G.alloc _ _
  have hn : Y.heap[y.heap.size]? = some (.cells (ndL (chainT sg n).k (chainT sg n).x (chainT sg n).a kv) 26) := by rw [hY]; exact heap_alloc_new y _
  have hs : Y.heap.size = y.heap.size + 1 := by rw [hY, World.size_alloc]
  rw [← hY]
  have hb2 := (gY.block tb hlt).trans hb
  have key : ∀ q, q ≠ tb → (((((Y.setCell ⟨tb, 0, none⟩ (.string kUn)).setCell ⟨tb, 1, none⟩ (.string sg)).setCell ⟨tb, 2, none⟩ (.int .i64 0)).setCell ⟨tb, 3, none⟩ (.slice (some ⟨y.heap.size, 0, none⟩) 1 1))).heap[q]? = Y.heap[q]? := fun q hq => by
    rw [Below.heap_setCell _ _ _ _ hq, Below.heap_setCell _ _ _ _ hq, Below.heap_setCell _ _ _ _ hq, Below.heap_setCell _ _ _ _ hq]
  refine ⟨((((g.trans gY).set _ _ _ hw).set _ _ _ hw).set _ _ _ hw).set _ _ _ hw, hw, .slice (some ⟨y.heap.size, 0, none⟩) 1 1, ?_, y.heap.size, 1, kv, rfl, by simp only [World.size_setCell]; omega, by omega, fun i u hu => ?_, ?_⟩
  · simp [World.setCell, Array.getElem?_modify, hb2, chainT, T1.k, T1.x, T1.a]
  · rw [World.cell?_of_block (a := ⟨y.heap.size, i, none⟩) (key _ (by show y.heap.size ≠ tb; omega)), Lib.cell_of_heap hn]
    exact hu
  · exact hc.keep (by simp only [World.size_setCell]; omega) (fun q hq hqt => (key q hqt).trans (gY.block q hq))
theorem bn_c (sg : ByteArray) (g : Nat) (w : World) : (Instr.build 26 #[(0, .string kUn), (1, .string sg), (3, .slice (some ⟨g, 0, none⟩) 1 1)]).run Try.prog w = .ok (.agg (ndL kUn sg 0 (.slice (some ⟨g, 0, none⟩) 1 1))) w := by kernel_rfl
end Go.Proofs.Ythbpmekfgkagiaa
