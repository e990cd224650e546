/- What lies where: blocks that are kept, cells that are set. -/
import Derived.Test.YtnliooflpclcbaaGreatDoorCodeMem
import Derived.Deep.RegionHeld3
import Derived.Deep.DeepCutAuto
namespace Go.Proofs.YtnliooflpclcbaaGreatDoor
set_option maxRecDepth 100000
open Go.RowKit Go.Maps Go.ChangeShapes Go.WideShapes Go.ChangeAt Go.Deep

theorem cell_other {w : World} {b i b' i' : Nat} (v : Value) (h : b' ≠ b ∨ i' ≠ i) : (w.setCell ⟨b, i, none⟩ v).cell? ⟨b', i', none⟩ = w.cell? ⟨b', i', none⟩ :=
  World.cell?_setCell_other _ _ _ _ (fun e => by injection e with e1 e2; omega)
theorem cell_same {w : World} {b i : Nat} (v : Value) {u : Value} (h : w.cell? ⟨b, i, none⟩ = some u) : (w.setCell ⟨b, i, none⟩ v).cell? ⟨b, i, none⟩ = some v := World.cell?_setCell_same _ _ _ h
theorem heap_set {w : World} {b : Nat} (x : Addr) (v : Value) (h : b ≠ x.block) : (w.setCell x v).heap[b]? = w.heap[b]? := Below.heap_setCell _ _ _ _ h
theorem G.set {w W : World} (h : G w W) (b i : Nat) (v : Value) (hb : w.heap.size ≤ b) : G w (W.setCell ⟨b, i, none⟩ v) :=
  ⟨h.os, h.tape, h.output, by rw [World.size_setCell]; exact h.size, fun k hk => (heap_set _ _ (by show k ≠ b; omega)).trans (h.block k hk)⟩
/-- Blocks from lo on are as they were. -/
def KeepFrom (lo : Nat) (w w' : World) : Prop := (∀ k, lo ≤ k → k < w.heap.size → w'.heap[k]? = w.heap[k]?) ∧ w.heap.size ≤ w'.heap.size
theorem KeepFrom.trans {lo : Nat} {w w1 w2 : World} (h : KeepFrom lo w w1) (k : KeepFrom lo w1 w2) : KeepFrom lo w w2 :=
  ⟨fun b h1 h2 => (k.1 b h1 (Nat.lt_of_lt_of_le h2 h.2)).trans (h.1 b h1 h2), Nat.le_trans h.2 k.2⟩
theorem KeepFrom.refl (lo : Nat) (w : World) : KeepFrom lo w w := ⟨fun _ _ _ => rfl, Nat.le_refl _⟩
theorem KeepFrom.mono {lo lo' : Nat} {w w1 : World} (h : KeepFrom lo w w1) (hl : lo ≤ lo') : KeepFrom lo' w w1 := ⟨fun k h1 h2 => h.1 k (Nat.le_trans hl h1) h2, h.2⟩
theorem KeepFrom.of_G {lo : Nat} {w w1 : World} (h : G w w1) : KeepFrom lo w w1 := ⟨fun k _ h2 => h.block k h2, h.size⟩
/-- Things that lie in blocks from lo on. -/
def RowIn {α : Type} (lo : Nat) (E : El α) (w : World) (ao : Option Addr) (n c : Nat) (l : List α) : Prop := ∀ w', KeepFrom lo w w' → RowAt E w' ao n c l
theorem RowIn.keep {α : Type} {lo : Nat} {E : El α} {w w' : World} {ao : Option Addr} {n c : Nat} {l : List α} (h : RowIn lo E w ao n c l) (k : KeepFrom lo w w') : RowIn lo E w' ao n c l := fun w2 k2 => h w2 (k.trans k2)
theorem RowIn.at {α : Type} {lo : Nat} {E : El α} {w : World} {ao : Option Addr} {n c : Nat} {l : List α} (h : RowIn lo E w ao n c l) : RowAt E w ao n c l := h w (KeepFrom.refl _ _)
theorem RowIn.mono {α : Type} {lo lo' : Nat} {E : El α} {w : World} {ao : Option Addr} {n c : Nat} {l : List α} (h : RowIn lo E w ao n c l) (hl : lo' ≤ lo) : RowIn lo' E w ao n c l := fun w2 k2 => h w2 (k2.mono hl)
theorem RowIn.nil {α : Type} (lo : Nat) (E : El α) (w : World) : RowIn lo E w none 0 0 ([] : List α) := fun w2 _ => RowAt.nil w2
/-- Cells set one behind the other. -/
def setN : World → Nat → Nat → List Value → World
  | w, _, _, [] => w
  | w, b, off, v :: vs => setN (w.setCell ⟨b, off, none⟩ v) b (off + 1) vs
theorem setN_heap : ∀ (vs : List Value) (w : World) (b off k : Nat), k ≠ b → (setN w b off vs).heap[k]? = w.heap[k]?
  | [], _, _, _, _, _ => rfl
  | _ :: vs, _, b, off, k, h => (setN_heap vs _ b (off + 1) k h).trans (heap_set _ _ h)
theorem setN_size : ∀ (vs : List Value) (w : World) (b off : Nat), (setN w b off vs).heap.size = w.heap.size
  | [], _, _, _ => rfl
  | _ :: vs, _, b, off => (setN_size vs _ b (off + 1)).trans (World.size_setCell _ _ _)
theorem setN_fro : ∀ (vs : List Value) (w : World) (b off : Nat) (a : Addr), (setN w b off vs).frozen? a = w.frozen? a
  | [], _, _, _, _ => rfl
  | _ :: vs, _, b, off, a => (setN_fro vs _ b (off + 1) a).trans (World.frozen?_setCell _ _ _ _)
theorem setN_out : ∀ (vs : List Value) (w : World) (b off i : Nat), i < off ∨ off + vs.length ≤ i → (setN w b off vs).cell? ⟨b, i, none⟩ = w.cell? ⟨b, i, none⟩
  | [], _, _, _, _, _ => rfl
  | v :: vs, w, b, off, i, h => by
    have h2 : i < off + 1 ∨ off + 1 + vs.length ≤ i := by simp at h; omega
    refine (setN_out vs _ b (off + 1) i h2).trans (cell_other _ (Or.inr ?_))
    simp at h
    omega
theorem setN_in : ∀ (vs : List Value) (w : World) (b off j : Nat) (v : Value), vs[j]? = some v → (∀ i, i < vs.length → (w.cell? ⟨b, off + i, none⟩).isSome = true) → (setN w b off vs).cell? ⟨b, off + j, none⟩ = some v
  | [], _, _, _, j, v, h, _ => by simp at h
  | x :: vs, w, b, off, 0, v, h, hs => by
    simp at h
    subst h
    obtain ⟨u, hu⟩ := Option.isSome_iff_exists.1 (hs 0 (by simp))
    exact (setN_out vs _ b (off + 1) off (Or.inl (by omega))).trans (cell_same _ hu)
  | x :: vs, w, b, off, j + 1, v, h, hs => by
    have h2 : vs[j]? = some v := by simpa using h
    have := setN_in vs (w.setCell ⟨b, off, none⟩ x) b (off + 1) j v h2 (fun i hi => by
      rw [cell_other _ (Or.inr (by omega))]
      have := hs (i + 1) (by simp; omega)
      rw [show off + 1 + i = off + (i + 1) by omega]
      exact this)
    rw [show off + (j + 1) = off + 1 + j by omega]
    exact this
theorem setN_some (vs : List Value) (w : World) (b off i : Nat) (hs : ∀ i, i < vs.length → (w.cell? ⟨b, off + i, none⟩).isSome = true) (h : (w.cell? ⟨b, i, none⟩).isSome = true) : ((setN w b off vs).cell? ⟨b, i, none⟩).isSome = true := by
  by_cases ho : i < off ∨ off + vs.length ≤ i
  · rw [setN_out vs w b off i ho]; exact h
  · obtain ⟨j, rfl⟩ : ∃ j, i = off + j := ⟨i - off, by omega⟩
    have hj : j < vs.length := by omega
    rw [setN_in vs w b off j vs[j] (List.getElem?_eq_getElem hj) hs]
    rfl
theorem row_get {α : Type} {E : El α} {w : World} {ao : Option Addr} {n c : Nat} {l : List α} (hr : RowAt E w ao n c l) {k : Nat} (hk : k < n) : ∃ b off a cs, ao = some ⟨b, off, none⟩ ∧ l[k]? = some a ∧ E.cs w a cs ∧ ∀ x, G w x → CellsAt x b (off + k * E.sz) cs := by
  rcases hr.2.2.2 with hz | ⟨b, off, e, hbl, hc⟩
  · omega
  have hln := hr.1
  obtain ⟨a, ha⟩ : ∃ a, l[k]? = some a := ⟨l[k]'(by omega), List.getElem?_eq_getElem _⟩
  obtain ⟨cs, ecs, hcs⟩ := hc k a ha
  exact ⟨b, off, a, cs, e, ha, ecs, fun x g => hcs.kept (g.block b hbl)⟩
/-- What is held may be more from here on. -/
theorem held_more {P : Program} {md : Region.Mode} {ops : Array Oper} {Q : Exit → Act → World → Prop} {S S' : World → Prop} (hS : ∀ x, S' x → S x) : ∀ (fuel : Nat) (listed : Array Bool) (a : Act) (w : World), wpAnyH P md ops Q S' fuel listed a w → wpAnyH P md ops Q S fuel listed a w
  | 0, _, _, _, h => h
  | fuel + 1, _, _, _, h => ⟨h.1, fun i hi => wpOp_mono (fun a' w' h' => ⟨hS w' h'.1, held_more hS fuel _ a' w' h'.2⟩) (h.2 i hi)⟩
theorem info_shape : (Tryz.prog.info? 63).map (fun i => (i.zero, i.size, i.bytes)) = some (some (.agg #[.int .i64 0, .int .i64 0, .int .u64 0]), 3, 24) := by kernel_rfl
theorem info_bool : (Tryz.prog.info? 4).map (fun i => (i.zero, i.size, i.bytes)) = some (some (.bool false), 1, 1) := by kernel_rfl
theorem info_int64 : (Tryz.prog.info? 2).map (fun i => (i.zero, i.size, i.bytes)) = some (some (.int .i64 0), 1, 8) := by kernel_rfl
theorem info_uint64 : (Tryz.prog.info? 35).map (fun i => (i.zero, i.size, i.bytes)) = some (some (.int .u64 0), 1, 8) := by kernel_rfl
theorem info_case : (Tryz.prog.info? 43).map (fun i => (i.zero, i.size, i.bytes)) = some (some (.agg #[.int .i64 0, .int .i64 0, .int .i64 0, .int .i64 0]), 4, 32) := by kernel_rfl
theorem info_instr : (Tryz.prog.info? 41).map (fun i => (i.zero, i.size, i.bytes)) = some (some (.agg #[.int .i64 0, .int .i64 0, .int .i64 0, .int .i64 0, .int .i64 0]), 5, 40) := by kernel_rfl
theorem info_func : (Tryz.prog.info? 39).map (fun i => (i.zero, i.size, i.bytes)) = some (some (.agg #[.int .i64 0, .int .i64 0, .int .i64 0, .int .i64 0, .slice none 0 0, .slice none 0 0, .slice none 0 0]), 7, 104) := by kernel_rfl
end Go.Proofs.YtnliooflpclcbaaGreatDoor
