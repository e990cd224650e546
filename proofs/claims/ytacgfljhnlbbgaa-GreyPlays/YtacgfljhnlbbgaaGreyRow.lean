/- A row of numbers that is cut from the front and grows behind; Nums. -/
import Derived.Test.YtacgfljhnlbbgaaGreyAwake
namespace Go.Proofs.Ytacgfljhnlbbgaa
open Go.RowKit Go.Maps Go.ChangeShapes Go.WideShapes Go.ChangeAt

/-- The block that a slice lies in. -/
def blk : Option Addr → List Nat
  | none => []
  | some a => [a.block]

/-- The numbers ys lie at ao, in room of the call's own. -/
structure RowW (w : World) (B : Nat) (ao : Option Addr) (cap : Nat) (ys : List Int) : Prop where
  le : ys.length ≤ cap
  cm : cap ≤ maxLen
  at_ : (ao = none ∧ ys = [] ∧ cap = 0) ∨ ∃ g off, ao = some ⟨g, off, none⟩ ∧ B ≤ g ∧ g < w.heap.size ∧ (∀ i x, ys[i]? = some x → w.cell? ⟨g, off + i, none⟩ = some (.int .i64 x)) ∧ (∀ j, j < cap → (w.cell? ⟨g, off + j, none⟩).isSome = true) ∧ (∀ j, w.frozen? ⟨g, j, none⟩ = false)
section
variable {W w w' : World} {B cap : Nat} {ao : Option Addr} {ys : List Int}
theorem RowW.nil (w : World) (B : Nat) : RowW w B none 0 [] := ⟨by simp, by unfold maxLen; omega, Or.inl ⟨rfl, rfl, rfl⟩⟩
theorem RowW.kept (h : RowW w B ao cap ys) (k : Kp w w' (blk ao)) : RowW w' B ao cap ys := by
  refine ⟨h.le, h.cm, ?_⟩
  rcases h.at_ with e | ⟨g, off, rfl, h1, h2, h3, h4, h5⟩
  · exact Or.inl e
  · have hk : w'.heap[g]? = w.heap[g]? := k g (by simp [blk])
    have hlt : g < w'.heap.size := by
      have e := hk
      rw [Array.getElem?_eq_getElem h2] at e
      exact (Array.getElem?_eq_some_iff.1 e).1
    exact Or.inr ⟨g, off, rfl, h1, hlt, fun i x hi => (World.cell?_of_block hk).trans (h3 i x hi), fun j hj => by rw [World.cell?_of_block (a := ⟨g, off + j, none⟩) hk]; exact h4 j hj, fun j => (World.frozen?_of_block (a := ⟨g, j, none⟩) hk).trans (h5 j)⟩
theorem RowW.lo (h : RowW w B ao cap ys) : ∀ d ∈ blk ao, B ≤ d ∧ d < w.heap.size := by
  intro d hd
  rcases h.at_ with ⟨rfl, _⟩ | ⟨g, off, rfl, h1, h2, _⟩
  · cases hd
  · simp [blk] at hd
    subst hd
    exact ⟨h1, h2⟩
theorem RowW.tail {y : Int} (h : RowW w B ao cap (y :: ys)) : ∃ g off, ao = some ⟨g, off, none⟩ ∧ w.cell? ⟨g, off, none⟩ = some (.int .i64 y) ∧ 0 < cap ∧
    RowW w B (if cap = 1 then some ⟨g, off, none⟩ else some ⟨g, off + 1, none⟩) (cap - 1) ys := by
  have hle := h.le
  rw [List.length_cons] at hle
  rcases h.at_ with ⟨_, e, _⟩ | ⟨g, off, rfl, h1, h2, h3, h4, h5⟩
  · cases e
  · refine ⟨g, off, rfl, h3 0 y rfl, by omega, by omega, by have := h.cm; omega, Or.inr ?_⟩
    by_cases e : cap = 1
    · have hy : ys = [] := List.eq_nil_of_length_eq_zero (by omega)
      subst hy
      rw [if_pos e]
      exact ⟨g, off, rfl, h1, h2, fun i x hi => by simp at hi, fun j hj => by omega, h5⟩
    · rw [if_neg e]
      refine ⟨g, off + 1, rfl, h1, h2, fun i x hi => ?_, fun j hj => ?_, h5⟩
      · have := h3 (i + 1) x (by simpa using hi)
        rw [show off + 1 + i = off + (i + 1) by omega]; exact this
      · have := h4 (j + 1) (by omega)
        rw [show off + 1 + j = off + (j + 1) by omega]; exact this

/-- w' is w but for one row, and for new blocks. -/
structure Gx (w w' : World) (ao : Option Addr) : Prop where
  os : w'.os = w.os
  tape : w'.tape = w.tape
  output : w'.output = w.output
  size : w.heap.size ≤ w'.heap.size
  block : ∀ k, k < w.heap.size → k ∉ blk ao → w'.heap[k]? = w.heap[k]?
theorem Gx.of_G (h : G w w') : Gx w w' ao := ⟨h.os, h.tape, h.output, h.size, fun k hk _ => h.block k hk⟩

/-- What append leaves of the row. -/
def App (w w' : World) (B : Nat) (ao ao' : Option Addr) (cap' : Nat) (ys' : List Int) : Prop := RowW w' B ao' cap' ys' ∧ (blk ao' = blk ao ∨ blk ao' = [w.heap.size]) ∧ Gx w w' ao

theorem app_new (hB : B ≤ w.heap.size) (v : Int) (cur : Array Value) (hm : cur.size ≤ maxLen) (hl : ys.length + 1 ≤ cur.size) (hc : ∀ (i : Nat) (x : Int), (ys ++ [v])[i]? = some x → cur[i]? = some (Value.int .i64 x)) :
    App w (w.drew.alloc (.cells cur 2)) B ao (some ⟨w.heap.size, 0, none⟩) cur.size (ys ++ [v]) := by
  have hcell : ∀ i, (w.drew.alloc (.cells cur 2)).cell? ⟨w.heap.size, 0 + i, none⟩ = cur[i]? := fun i => by
    rw [Nat.zero_add]
    exact World.cell?_alloc_new w.drew cur 2 i
  refine ⟨⟨by simp; omega, hm, Or.inr ⟨w.heap.size, 0, rfl, hB, by rw [World.size_alloc]; show w.heap.size < w.heap.size + 1; omega, fun i x hi => (hcell i).trans (hc i x hi), fun j hj => ?_, fun j => fz_new w.drew _ _ j⟩⟩, Or.inr rfl, Gx.of_G ((G.refl w).drew.more _)⟩
  rw [hcell, Array.getElem?_eq_getElem hj]
  rfl

/-- append of one number, in whatever world. -/
theorem run_app (ty : TypeId) (hr : RowW w B ao cap ys) (hB : B ≤ w.heap.size) (xb c : Nat) (v : Int) (hx : w.cell? ⟨xb, 0, none⟩ = some (.int .i64 v)) (hn : ys.length ≤ 1000) :
    ∃ ao' cap' w', (Builtin.append_ #[28, 28] ty #[.slice ao ys.length cap, .slice (some ⟨xb, 0, none⟩) 1 c]).run Try.prog w = .ok (.slice ao' (ys.length + 1) cap') w' ∧ App w w' B ao ao' cap' (ys ++ [v]) := by
  obtain ⟨i0, hi0, hz0, hz1, hz2⟩ := info_parts info_int64
  have hs : Src Try.prog i0.size 28 (.slice (some ⟨xb, 0, none⟩) 1 c) 1 [.int .i64 v] w := Src.ofSlice w Try.underlying28 ⟨xb, 0, none⟩ 1 c [.int .i64 v] (by rw [hz1]; rfl) (fun j u hj => by
    match j, hj with
    | 0, hj =>
      simp at hj
      subst hj
      simpa [Addr.add] using hx) (fun u hu => by simp at hu; subst hu; rfl)
  have hgrow : ∀ (base : Option Addr) (sCap : Nat) (olds : List Value), sCap < ys.length + 1 → (Builtin.firstCells i0.size ys.length (.slice base ys.length sCap)).run Try.prog w.drew = .ok olds.toArray w.drew → olds = ys.map (fun x => Value.int .i64 x) →
      ∃ ao' cap' w', (Builtin.append_ #[28, 28] ty #[.slice base ys.length sCap, .slice (some ⟨xb, 0, none⟩) 1 c]).run Try.prog w = .ok (.slice ao' (ys.length + 1) cap') w' ∧ App w w' B ao ao' cap' (ys ++ [v]) := by
    rintro base sCap olds hc ho rfl
    have hfit : Builtin.nextslicecap (ys.length + 1) sCap * i0.bytes ≤ 281474976710656 := by rw [hz2]; exact growslice_fits hc (by omega)
    have hrun := run_append_grow_src (P := Try.prog) w 28 28 ty 2 i0 (.int .i64 0) Try.underlying28 hi0 hz0 base ys.length sCap _ ho _ 1 _ hs hc (by omega) hfit
    have hge := grownCap_ge w (ys.length + 1) sCap 2
    have hle := grownCap_le_maxLen w (ys.length + 1) sCap 2 (by unfold maxLen; omega)
    have hsize : ((ys.map (fun x => Value.int .i64 x) ++ [Value.int .i64 v]).toArray ++ Builtin.zeroCells (Value.int .i64 0).cells (grownCap w (ys.length + 1) sCap 2 - (ys.length + 1))).size = grownCap w (ys.length + 1) sCap 2 := by
      rw [Array.size_append, size_zeroCells]
      simp [Value.cells]
      omega
    have A := app_new (w := w) (ao := ao) hB v ((ys.map (fun x => Value.int .i64 x) ++ [Value.int .i64 v]).toArray ++ Builtin.zeroCells (Value.int .i64 0).cells (grownCap w (ys.length + 1) sCap 2 - (ys.length + 1))) (by rw [hsize]; exact hle) (by rw [hsize]; exact hge) (fun i x hi => by
      have hl : i < (ys ++ [v]).length := (List.getElem?_eq_some_iff.1 hi).1
      rw [Array.getElem?_append_left (by simpa using hl)]
      have e : ys.map (fun x => Value.int .i64 x) ++ [Value.int .i64 v] = (ys ++ [v]).map fun x => Value.int .i64 x := by simp
      rw [e, List.getElem?_toArray, List.getElem?_map, hi]
      rfl)
    rw [hsize] at A
    exact ⟨_, _, _, hrun, A⟩
  rcases hr.at_ with ⟨rfl, rfl, rfl⟩ | ⟨g, off, rfl, h1, h2, h3, h4, h5⟩
  · exact hgrow none 0 [] (by simp) (run_firstCells_none _ _ _ _ _) rfl
  · by_cases hroom : ys.length + 1 ≤ cap
    · have hrun := run_append_room_src (P := Try.prog) w 28 28 ty 2 i0 Try.underlying28 hi0 g off ys.length cap _ 1 _ hs hroom (fun j hj => by
        simp at hj
        subst hj
        rw [hz1, Nat.mul_one, Nat.add_zero]
        exact h4 _ (by omega)) (fun j _ => h5 _)
      rw [hz1, Nat.mul_one] at hrun
      have e0 : w.setCells g (off + ys.length) [.int .i64 v] = w.setCell ⟨g, off + ys.length, none⟩ (.int .i64 v) := rfl
      rw [e0] at hrun
      have hold := h4 ys.length (by omega)
      obtain ⟨u, hu⟩ := Option.isSome_iff_exists.1 hold
      refine ⟨_, _, _, hrun, ⟨by simp; omega, hr.cm, Or.inr ⟨g, off, rfl, h1, by rw [World.size_setCell]; exact h2, fun i x hi => ?_, fun j hj => ?_, fun j => by rw [World.frozen?_setCell]; exact h5 j⟩⟩, Or.inl rfl, ?_⟩
      · rcases snoc_get hi with ⟨e, hi⟩ | ⟨e, rfl⟩
        · rw [cell_other _ (by omega)]; exact h3 i x hi
        · subst e; exact cell_same _ hu
      · by_cases e : j = ys.length
        · subst e; rw [cell_same _ hu]; rfl
        · rw [cell_other _ (by omega)]; exact h4 j hj
      · refine ⟨rfl, rfl, rfl, by rw [World.size_setCell]; exact Nat.le_refl _, fun k hk hb => heap_set _ _ (fun e => hb (by simp [blk]; exact e))⟩
    · refine hgrow (some ⟨g, off, none⟩) cap _ (by omega) (run_firstCells_some w.drew i0.size ys.length ⟨g, off, none⟩ ys.length cap (ys.map fun x => Value.int .i64 x) (by rw [hz1]; simp) (fun j u hj => ?_)) rfl
      rw [List.getElem?_map] at hj
      obtain ⟨x, hx1, rfl⟩ := Option.map_eq_some_iff.1 hj
      rw [Addr.add_lit]
      exact h3 j x hx1

/-- The same, at the operation. -/
theorem wpl_app {ops : Array Oper} {rest : List Oper} {o : Oper} {a : Act} {Q : Exit → Act → World → Prop} (hgd : o.guard = none) (s x : Operand) (ho : o.op = .call { callee := .builtin .append, args := #[s, x], argTypes := #[28, 28] })
    (k m : Nat) (hk : ys.length = k) (hm : k + 1 = m) (hs : a.eval s = .slice ao k cap) (hr : RowW w B ao cap ys) (hB : B ≤ w.heap.size) (xb c : Nat) (v : Int) (hxe : a.eval x = .slice (some ⟨xb, 0, none⟩) 1 c) (hx : w.cell? ⟨xb, 0, none⟩ = some (.int .i64 v)) (hn : ys.length ≤ 1000)
    (h : ∀ ao' cap' w', App w w' B ao ao' cap' (ys ++ [v]) → wpList Try.prog ops Q rest (a.put o.dst (.slice ao' m cap')) w') : wpList Try.prog ops Q (o :: rest) a w := by
  subst hk
  subst hm
  refine wpList_plain hgd fun K hK => ?_
  obtain ⟨ao', cap', w', hrun, A⟩ := run_app o.type hr hB xb c v hx hn
  unfold Oper.wp execOp
  simp only [ho, resolve, invoke, builtin, Sem.run_bind, Sem.run_pure, Result.andThen_ok, List.map_toArray, List.map_cons, List.map_nil, hs, hxe, hrun]
  exact hK _ _ (h ao' cap' w' A)
end

/-- Numbers that can be read. -/
def IsI (w : World) (ao : Option Addr) (ys : List Int) : Prop := ys = [] ∨ ∃ g off, ao = some ⟨g, off, none⟩ ∧ g < w.heap.size ∧ ∀ i x, ys[i]? = some x → w.cell? ⟨g, off + i, none⟩ = some (.int .i64 x)
theorem IsI.g {w w' : World} {ao : Option Addr} {ys : List Int} (h : IsI w ao ys) (g : G w w') : IsI w' ao ys := by
  rcases h with h | ⟨b, off, h1, h2, h3⟩
  · exact Or.inl h
  · exact Or.inr ⟨b, off, h1, Nat.lt_of_lt_of_le h2 g.size, fun i x hi => g.cell (h3 i x hi)⟩
theorem IsI.at_ {w : World} {ao : Option Addr} {ys : List Int} (h : IsI w ao ys) {i : Nat} (hi : i < ys.length) : ∃ x g off, ys[i]? = some x ∧ ao = some ⟨g, off, none⟩ ∧ w.cell? ⟨g, off + i, none⟩ = some (.int .i64 x) := by
  rcases h with rfl | ⟨b, off, h1, h2, h3⟩
  · simp at hi
  · exact ⟨_, b, off, List.getElem?_eq_getElem hi, h1, h3 i _ (List.getElem?_eq_getElem hi)⟩
theorem RowW.is {w : World} {B cap : Nat} {ao : Option Addr} {ys : List Int} (h : RowW w B ao cap ys) : IsI w ao ys := by
  rcases h.at_ with ⟨_, h, _⟩ | ⟨g, off, h1, h2, h3, h4, _⟩
  · exact Or.inl h
  · exact Or.inr ⟨g, off, h1, h3, h4⟩

set_option maxHeartbeats 1000000 in
theorem nums_true (w : World) (ao bo : Option Addr) (ca cb n : Nat) (ys : List Int) (hl : ys.length = n) (hn : n ≤ 1000) (ha : Hid (IsI w ao ys)) (hb : Hid (IsI w bo ys)) :
    Calls Try.prog 13 #[.slice ao n ca, .slice bo n cb] w fun e w' => e = .returned (.bool true) ∧ G w w' := by
  have hnn : ((n : Int) != (n : Int)) = false := by simp
  go_enter Try.func13, Try.ntmps13
  go_wp2_with fail
  go_loopw [5] (fun c wr => ∃ j : Nat, j ≤ n ∧ c = .int .i64 j ∧ Hid (G w wr)) (fun c _ => n - (intOf c).toNat)
  case atStart => exact ⟨0, Nat.zero_le _, rfl, hide (G.refl _)⟩
  case round =>
    obtain ⟨j, hj, rfl, g⟩ := hrel
    by_cases hjn : j = n
    · subst hjn
      go_wp2_with fail
      go_ret
      exact ⟨rfl, unhide g⟩
    · have hjl : (j : Int) < (n : Int) := by omega
      obtain ⟨x, b1, o1, e1, rfl, y1⟩ := ((unhide ha).g (unhide g)).at_ (i := j) (by omega)
      obtain ⟨x', b2, o2, e2, rfl, y2⟩ := ((unhide hb).g (unhide g)).at_ (i := j) (by omega)
      obtain rfl : x = x' := Option.some.inj (e1.symm.trans e2)
      have hxx : (x != x) = false := by simp
      clear e1 e2
      go_wp2_with fail
      go_quiet (fail)
      go_wp2_with fail
      go_roundw
      case rel => exact ⟨j + 1, by omega, by go_num, hide ((unhide g).trans (G.drewN _ _))⟩
      case measure => simp [intOf]; omega
end Go.Proofs.Ytacgfljhnlbbgaa
