/- Lists that are read: what lies in them while they are made. -/
import Derived.Test.YtdekhnfncecacaaDoorCodeRd2
namespace Go.Proofs.YtdekhnfncecacaaDoor
set_option maxRecDepth 100000
open Go.RowKit Go.Maps Go.ChangeShapes Go.WideShapes Go.ChangeAt Go.Deep

theorem Tr.keep {lo rb : Nat} {w w1 : World} (h : Tr w w1 rb) (hl : rb < lo) : KeepFrom lo w w1 := ⟨fun k h1 h2 => h.block k h2 (by omega), h.size⟩
theorem setN_to {w0 w : World} {rb : Nat} {s : Option (List Int)} (b : Nat) (h1 : b ≠ rb) (h2 : w.heap.size ≤ b) : ∀ (vs : List Value) (W : World) (off : Nat), RdTo w0 w W rb s → RdTo w0 w (setN W b off vs) rb s
  | [], _, _, h => h
  | v :: vs, _, off, h => setN_to b h1 h2 vs _ (off + 1) (h.set b off v h1 h2)
/-- k of n are read; they lie in the new block. -/
def RlInv {α : Type} (E : El α) (p : Prs α) (ok : α → Prop) (w0 w1 : World) (rb n : Nat) (s1 : Option (List Int)) (k : Nat) (wr : World) : Prop :=
  ∃ (lk : List α) (sk : Option (List Int)), lk.length = k ∧ (∀ a ∈ lk, ok a) ∧ Res (pN p k) s1 lk sk ∧ RdTo w0 w1 wr rb sk ∧ w1.heap.size < wr.heap.size ∧
    (∀ (i : Nat) a, lk[i]? = some a → ∃ cs, (∀ w', KeepFrom (w1.heap.size + 1) wr w' → E.cs w' a cs) ∧ CellsAt wr w1.heap.size (i * E.sz) cs) ∧
    (∀ j, j < n * E.sz → (wr.cell? ⟨w1.heap.size, j, none⟩).isSome = true ∧ wr.frozen? ⟨w1.heap.size, j, none⟩ = false)
theorem rl_start {α : Type} (E : El α) (p : Prs α) (ok : α → Prop) {w0 w1 : World} {rb : Nat} {s1 : Option (List Int)} (n : Nat) (h : RdS w0 w1 rb s1) (z : Array Value) (t : TypeId) : RlInv E p ok w0 w1 rb n s1 0 (w1.alloc (.cells (madeCells z (n * E.sz)) t)) := by
  have e := heap_alloc_new w1 (.cells (madeCells z (n * E.sz)) t)
  refine ⟨[], s1, rfl, (fun a ha => by cases ha), Res.zero s1, ⟨h.g (G.alloc _ _), Tr.of_G _ (G.alloc _ _)⟩, by rw [World.size_alloc]; omega, (fun i a hi => by simp at hi), fun j hj => ⟨?_, ?_⟩⟩
  · rw [cell_of_row _ _ j _ _ _ e]
    have : j < (madeCells z (n * E.sz)).size := by rw [size_madeCells]; exact hj
    rw [Array.getElem?_eq_getElem this]
    rfl
  · unfold World.frozen?
    rw [e]
    simp
/-- What is known behind one more. -/
def RlPost {α : Type} (E : El α) (p : Prs α) (ok : α → Prop) (w0 w1 : World) (rb n : Nat) (s1 : Option (List Int)) (k : Nat) (s' : Option (List Int)) (cs : List Value) (w' : World) : Prop :=
  (∀ j, j < E.sz → (w'.cell? ⟨w1.heap.size, k * E.sz + j, none⟩).isSome = true ∧ w'.frozen? ⟨w1.heap.size, k * E.sz + j, none⟩ = false) ∧ w'.cell? ⟨rb, 1, none⟩ = some (.bool s'.isNone) ∧
    (s' = none → RdTo w0 w1 (setN w' w1.heap.size (k * E.sz) cs) rb none ∧ ∃ l, Res (pN p (k + 1)) s1 l none) ∧ (∀ r, s' = some r → RlInv E p ok w0 w1 rb n s1 (k + 1) (setN w' w1.heap.size (k * E.sz) cs))
theorem RdS.bad {w0 w : World} {rb : Nat} {s : Option (List Int)} (h : RdS w0 w rb s) : w.cell? ⟨rb, 1, none⟩ = some (.bool s.isNone) := by
  cases s with
  | none => exact RdC.c1 h
  | some zs => obtain ⟨ao, n, c, h, _⟩ := h; exact h.c1
theorem rl_round {α : Type} {E : El α} {p : Prs α} {ok : α → Prop} (eok : E.Ok) {w0 w1 : World} {rb n : Nat} {s1 : Option (List Int)} {k : Nat} {wr : World} (hrb1 : rb < w1.heap.size) (h : RlInv E p ok w0 w1 rb n s1 k wr) (hk : k < n) (F : FuncId) (V : Value → List Value → Prop)
    (EC : ∀ sk, RdS w0 wr rb sk → Tr w1 wr rb → Calls Tryd.prog F #[.pointer (some ⟨rb, 0, none⟩)] wr fun e w' => ∃ (v : Value) (a : α) (cs : List Value) (s' : Option (List Int)), e = .returned v ∧ V v cs ∧ (∀ w'', KeepFrom wr.heap.size w' w'' → E.cs w'' a cs) ∧ ok a ∧ Res p sk a s' ∧ RdTo w0 wr w' rb s') :
    Calls Tryd.prog F #[.pointer (some ⟨rb, 0, none⟩)] wr fun e w' => ∃ (v : Value) (a : α) (cs : List Value) (s' : Option (List Int)), e = .returned v ∧ V v cs ∧ E.cs w' a cs ∧ RlPost E p ok w0 w1 rb n s1 k s' cs w' := by
  obtain ⟨lk, sk, hl, hok, hres, hto, hlt, hel, hcl⟩ := h
  refine (EC sk hto.1 hto.2).mono ?_
  rintro e w' ⟨v, a, cs, s', rfl, hV, hcs, oka, hr2, hto2⟩
  refine ⟨v, a, cs, s', rfl, hV, hcs w' (KeepFrom.refl _ _), ?_⟩
  have hlb : w1.heap.size ≠ rb := by omega
  have eb : w'.heap[w1.heap.size]? = wr.heap[w1.heap.size]? := hto2.2.block _ hlt hlb
  have hlen := eok.len w' a cs (hcs w' (KeepFrom.refl _ _))
  have hidx : ∀ j, j < E.sz → k * E.sz + j < n * E.sz := fun j hj => by
    have : (k + 1) * E.sz ≤ n * E.sz := Nat.mul_le_mul_right _ hk
    rw [Nat.add_mul] at this
    omega
  have hcl' : ∀ j, j < n * E.sz → (w'.cell? ⟨w1.heap.size, j, none⟩).isSome = true ∧ w'.frozen? ⟨w1.heap.size, j, none⟩ = false := fun j hj => by
    rw [World.cell?_of_block (a := ⟨w1.heap.size, j, none⟩) eb, World.frozen?_of_block (a := ⟨w1.heap.size, j, none⟩) eb]
    exact hcl j hj
  have hsome : ∀ i, i < cs.length → (w'.cell? ⟨w1.heap.size, k * E.sz + i, none⟩).isSome = true := fun i hi => (hcl' _ (hidx i (by omega))).1
  have hto3 : RdTo w0 w1 w' rb s' := hto2.from hto.2
  refine ⟨fun j hj => hcl' _ (hidx j hj), hto2.1.bad, fun hs => ⟨?_, lk ++ [a], ?_⟩, fun r hs => ?_⟩
  · subst hs
    exact setN_to _ hlb (Nat.le_refl _) cs w' _ hto3
  · subst hs
    exact hres.step hr2
  · refine ⟨lk ++ [a], s', by simp [hl], ?_, hres.step hr2, setN_to _ hlb (Nat.le_refl _) cs w' _ hto3, ?_, ?_, ?_⟩
    · intro b hb
      rcases List.mem_append.1 hb with hb | hb
      · exact hok b hb
      · simp at hb; rw [hb]; exact oka
    · rw [setN_size]
      have := hto2.2.size
      omega
    · have kf : KeepFrom (w1.heap.size + 1) wr (setN w' w1.heap.size (k * E.sz) cs) := ⟨fun q h1 h2 => (setN_heap cs w' _ _ q (by omega)).trans (hto2.2.block q h2 (by omega)), by rw [setN_size]; exact hto2.2.size⟩
      intro i b hi
      by_cases hik : i < k
      · rw [List.getElem?_append_left (by omega)] at hi
        obtain ⟨cs0, g1, g2⟩ := hel i b hi
        have hl0 := eok.len _ b cs0 (g1 wr (KeepFrom.refl _ _))
        refine ⟨cs0, fun w2 k2 => g1 w2 (kf.trans k2), fun j u hj => ?_⟩
        have hj2 : j < E.sz := by
          have := (List.getElem?_eq_some_iff.1 hj).1
          omega
        have hlo : i * E.sz + j < k * E.sz := by
          have : (i + 1) * E.sz ≤ k * E.sz := Nat.mul_le_mul_right _ hik
          rw [Nat.add_mul] at this
          omega
        rw [setN_out cs w' _ _ _ (Or.inl hlo)]
        exact (World.cell?_of_block eb).trans (g2 j u hj)
      · have hil : i < (lk ++ [a]).length := (List.getElem?_eq_some_iff.1 hi).1
        simp at hil
        obtain rfl : i = k := by omega
        rw [List.getElem?_append_right (by omega)] at hi
        simp [hl] at hi
        subst hi
        refine ⟨cs, fun w2 k2 => hcs w2 ⟨fun q h1 h2 => ?_, ?_⟩, fun j u hj => setN_in cs w' _ _ j u hj hsome⟩
        · exact (k2.1 q (by omega) (by rw [setN_size]; exact h2)).trans (setN_heap cs w' _ _ q (by omega))
        · have := k2.2
          rw [setN_size] at this
          exact this
    · intro j hj
      refine ⟨setN_some cs w' _ _ j hsome (hcl' j hj).1, ?_⟩
      rw [setN_fro]
      exact (hcl' j hj).2
/-- All are read. -/
theorem rl_end {α : Type} {E : El α} {p : Prs α} {ok : α → Prop} {w0 w w1 : World} {rb n : Nat} {s s1 : Option (List Int)} {wr : World} (hn : n ≤ 10000000) (hr : Res pU s n s1) (ht : Tr w w1 rb) (h : RlInv E p ok w0 w1 rb n s1 n wr) :
    ∃ (l : List α) (s' : Option (List Int)), RowIn w.heap.size E wr (some ⟨w1.heap.size, 0, none⟩) n n l ∧ (∀ a ∈ l, ok a) ∧ Res (pL p) s l s' ∧ RdTo w0 w wr rb s' := by
  obtain ⟨lk, sk, hl, hok, hres, hto, hlt, hel, hcl⟩ := h
  refine ⟨lk, sk, ?_, hok, Res.list hr hres, hto.from ht⟩
  intro w' k
  have hs := ht.size
  refine ⟨hl, by unfold maxLen; omega, (fun e => by cases e), ?_⟩
  by_cases h0 : n = 0
  · exact Or.inl h0
  · refine Or.inr ⟨w1.heap.size, 0, rfl, Nat.lt_of_lt_of_le hlt k.2, fun i a hi => ?_⟩
    obtain ⟨cs, g1, g2⟩ := hel i a hi
    refine ⟨cs, g1 w' (k.mono (by omega)), ?_⟩
    rw [Nat.zero_add]
    exact g2.kept (k.1 _ hs hlt)
/-- What the reader has before it. -/
theorem rl_rest {w0 w1 : World} {rb : Nat} {s1 : Option (List Int)} (h : RdS w0 w1 rb s1) : ∃ ao m c, w1.cell? ⟨rb, 0, none⟩ = some (.slice ao m c) ∧ m ≤ 10000000 ∧ (s1 = none → m = 0) ∧ (∀ zs, s1 = some zs → zs.length = m ∧ Byt zs) ∧ ∃ v bad, RdC w1 rb v bad := by
  cases s1 with
  | none => exact ⟨none, 0, 0, RdC.c0 h, by omega, fun _ => rfl, (fun zs e => by cases e), _, _, h⟩
  | some zs =>
    obtain ⟨ao, n, c, hC, h1, h2, h3, h4⟩ := h
    exact ⟨ao, n, c, hC.c0, h2, (fun e => by cases e), (fun z e => by rw [← Option.some.inj e]; exact ⟨h4.1, h4.2.1⟩), _, _, hC⟩
/-- More than there is room for. -/
theorem rl_many {α : Type} {o : α → Prop} {e : α → List Int} {p : Prs α} {q : Nat} (c : Cod o e p q) {s s1 : Option (List Int)} {u m : Nat} (hr : Res pU s u s1) (hm : ∀ zs, s1 = some zs → zs.length = m ∧ Byt zs) (hq : 0 < q) (h : m / q < u) : Res (pL p) s ([] : List α) none := by
  refine Res.list hr (fun zs e => ?_)
  obtain ⟨h1, h2⟩ := hm zs e
  refine pN_none c u zs h2 ?_
  rw [h1]
  exact (Nat.div_lt_iff_lt_mul hq).1 h
end Go.Proofs.YtdekhnfncecacaaDoor
