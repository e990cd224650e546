/- A graph in memory; ahead of package live. -/
import Derived.Test.YtnliooflpclcbaaGreatDoorLiveMap
namespace Go.Proofs.YtnliooflpclcbaaGreatDoor
set_option maxRecDepth 100000
open Go.RowKit Go.Maps Go.ChangeShapes Go.WideShapes Go.ChangeAt Go.Deep

/-- Ints that lie in other blocks than nb. -/
def IsX (nb : Nat) (w : World) (v : Value) (l : List Int) : Prop := ∀ w', Kx 0 nb none w w' → IsL w' v l
theorem IsX.keep {nb : Nat} {w w' : World} {v : Value} {l : List Int} (h : IsX nb w v l) (k : Kx 0 nb none w w') : IsX nb w' v l := fun w2 k2 => h w2 (k.trans k2)
theorem G.kx {nb : Nat} {q : Option Nat} {w w' : World} (g : G w w') : Kx 0 nb q w w' := ⟨fun b _ h2 _ _ => g.block b h2, g.size⟩
/-- A graph: its nodes lie in the block nb, what each keeps, what follows it, what is known of it. -/
structure Gr (w : World) (gB nb N : Nat) (nx : Nat → List Int) (kp st : Nat → Nat) : Prop where
  c : ∃ cap, w.cell? ⟨gB, 13, none⟩ = some (.slice (some ⟨nb, 0, none⟩) N cap)
  ne : gB ≠ nb
  lt : nb < w.heap.size
  set : ∀ k, k < N → w.cell? ⟨nb, k * 3, none⟩ = some (.int .u64 (st k : Int)) ∧ w.frozen? ⟨nb, k * 3, none⟩ = false
  kept : ∀ k, k < N → w.cell? ⟨nb, k * 3 + 1, none⟩ = some (.int .u64 (kp k : Int))
  next : ∀ k, k < N → ∃ v, w.cell? ⟨nb, k * 3 + 2, none⟩ = some v ∧ IsX nb w v (nx k)
  bs : ∀ k, k < N → st k < 18446744073709551616 ∧ kp k < 18446744073709551616 ∧ (nx k).length ≤ 1000000 ∧ ∀ q ∈ nx k, 0 ≤ q ∧ q < (N : Int)
theorem Gr.lt0 {w : World} {gB nb N : Nat} {nx : Nat → List Int} {kp st : Nat → Nat} (h : Gr w gB nb N nx kp st) : gB < w.heap.size := by
  obtain ⟨cap, hc⟩ := h.c
  exact World.block_lt_of_cell? w _ hc
theorem Gr.g {w w' : World} {gB nb N : Nat} {nx : Nat → List Int} {kp st : Nat → Nat} (h : Gr w gB nb N nx kp st) (g : G w w') : Gr w' gB nb N nx kp st := by
  obtain ⟨cap, hc⟩ := h.c
  refine ⟨⟨cap, g.cell hc⟩, h.ne, Nat.lt_of_lt_of_le h.lt g.size, fun k hk => ⟨g.cell (h.set k hk).1, (World.frozen?_of_block (a := ⟨nb, k * 3, none⟩) (g.block nb h.lt)).trans (h.set k hk).2⟩, fun k hk => g.cell (h.kept k hk), fun k hk => ?_, h.bs⟩
  obtain ⟨v, h1, h2⟩ := h.next k hk
  exact ⟨v, g.cell h1, h2.keep g.kx⟩

/-- The rows that ahead makes: of each node those that it follows. -/
structure AhI (W x : World) (N : Nat) (ah : Nat → List Int) : Prop where
  g : G W x
  lt : W.heap.size < x.heap.size
  fz : ∀ k, k < N → x.frozen? ⟨W.heap.size, k, none⟩ = false
  rows : ∀ k, k < N → ∃ v, x.cell? ⟨W.heap.size, k, none⟩ = some v ∧ OwnL x (W.heap.size + 1) v (ah k)
  dis : ∀ k k' v v' q, k < N → k' < N → k ≠ k' → x.cell? ⟨W.heap.size, k, none⟩ = some v → x.cell? ⟨W.heap.size, k', none⟩ = some v' → v.ownBlock = some q → v'.ownBlock = some q → False
theorem AhI.more {W x x' : World} {N : Nat} {ah : Nat → List Int} (h : AhI W x N ah) (g : G x x') : AhI W x' N ah := by
  have eb := g.block W.heap.size h.lt
  have ec : ∀ k, x'.cell? ⟨W.heap.size, k, none⟩ = x.cell? ⟨W.heap.size, k, none⟩ := fun k => World.cell?_of_block eb
  refine ⟨h.g.trans g, Nat.lt_of_lt_of_le h.lt g.size, fun k hk => (World.frozen?_of_block (a := ⟨W.heap.size, k, none⟩) eb).trans (h.fz k hk), fun k hk => ?_, fun k k' v v' q h1 h2 h3 h4 h5 => h.dis k k' v v' q h1 h2 h3 ((ec k).symm.trans h4) ((ec k').symm.trans h5)⟩
  obtain ⟨v, h1, h2⟩ := h.rows k hk
  exact ⟨v, (ec k).trans h1, own_kept h2 (fun b _ hb => g.block b hb)⟩
theorem info_ints : (Tryz.prog.info? 55).map (fun i => (i.zero, i.size, i.bytes)) = some (some (.slice none 0 0), 1, 24) := by kernel_rfl
theorem mk_rows (n : Nat) (hn : n ≤ 10000000) (w : World) : (Instr.makeSlice 89 (.int .i64 (n : Int)) (.int .i64 (n : Int))).run Tryz.prog w = .ok (.slice (some ⟨w.heap.size, 0, none⟩) n n) (w.alloc (.cells (madeCells #[.slice none 0 0] n) 55)) := by
  obtain ⟨i, hi, hz, hs, hb⟩ := info_parts info_ints
  have := run_make (P := Tryz.prog) w 89 55 i (.slice none 0 0) Tryz.underlying89 hi hz .i64 .i64 (n : Int) (n : Int) (by omega) (by omega) (by rw [hb]; omega) (by omega)
  rw [this, hs, Int.toNat_natCast, Nat.mul_one]
  rfl
theorem made_get (z : Value) (n k : Nat) (h : k < n) : (madeCells #[z] n)[k]? = some z := by
  have hs : k < (madeCells #[z] n).size := by rw [size_madeCells]; exact h
  rw [Array.getElem?_eq_getElem hs]
  simp [madeCells, Nat.mod_one]
theorem ah_start (W : World) (N : Nat) : AhI W (W.alloc (.cells (madeCells #[.slice none 0 0] N) 55)) N (fun _ => []) := by
  have e := heap_alloc_new W (.cells (madeCells #[.slice none 0 0] N) 55)
  have hcell : ∀ k, k < N → (W.alloc (.cells (madeCells #[.slice none 0 0] N) 55)).cell? ⟨W.heap.size, k, none⟩ = some (.slice none 0 0) := fun k hk => by
    rw [cell_of_row _ _ k _ _ _ e]
    exact made_get _ _ _ hk
  refine ⟨G.alloc _ _, by rw [World.size_alloc]; omega, fun k _ => ?_, fun k hk => ⟨_, hcell k hk, ownl_nil _ _⟩, fun k k' v v' q h1 h2 h3 h4 h5 h6 => ?_⟩
  · unfold World.frozen?
    rw [e]
    simp
  · rw [hcell k h1] at h4
    cases h4
    cases h6
theorem ah_app {W x : World} {N : Nat} {ah : Nat → List Int} (h : AhI W x N ah) (j : Nat) (hj : j < N) (a : Int) (hn : (ah j).length < 1000000) :
    ∃ v v' x3, x.cell? ⟨W.heap.size, j, none⟩ = some v ∧ (Builtin.append_ #[55, 55] 55 #[v, .slice (some ⟨x.heap.size, 0, none⟩) 1 1]).run Tryz.prog (x.alloc (.cells #[.int .i64 a] 3)) = .ok v' x3 ∧ v'.oneCell' = true ∧ (∃ g cap, v' = .slice (some ⟨g, 0, none⟩) ((ah j).length + 1) cap) ∧ x3.cell? ⟨W.heap.size, j, none⟩ = some v ∧ x3.frozen? ⟨W.heap.size, j, none⟩ = false ∧ AhI W (x3.setCell ⟨W.heap.size, j, none⟩ v') N (fun k => if k = j then ah j ++ [a] else ah k) := by
  obtain ⟨v, hv, ho⟩ := h.rows j hj
  obtain ⟨i, hi, hz, hs, hb⟩ := info_parts info_int
  have ga := G.alloc x (.cells #[.int .i64 a] 3)
  have hm := h.more ga
  obtain ⟨v2, hv2, ho2⟩ := hm.rows j hj
  have hv2' : v2 = v := Option.some.inj (hv2.symm.trans (ga.cell hv))
  subst hv2'
  obtain ⟨v', x3, hrun, r1, r2, _, r4⟩ := run_append_own_at (P := Tryz.prog) (x.alloc (.cells #[.int .i64 a] 3)) (W.heap.size + 1) 55 55 3 i _ 1 8 Tryz.underlying55 hi hz hs hb rfl (by decide) v2 (ah j).length _ ho2 ⟨x.heap.size, 0, none⟩ 1 1 [.int .i64 a] rfl
    (fun q u hq => by
      match q, hq with
      | 0, hq => simp at hq; subst hq; rw [Addr.add_lit, cell_of_row _ _ _ _ _ _ (heap_alloc_new x _)]; rfl
      | q + 1, hq => simp at hq) (by simp [Value.oneCell']) (by unfold maxLen; omega) (by omega) hm.lt
  have hbo := own_blk ho2
  have hob := own_lt ho2
  have hform : ∃ g cap, v' = .slice (some ⟨g, 0, none⟩) ((ah j).length + 1) cap := by
    rcases r1.2 with ⟨_, h0⟩ | ⟨g, cap, cur, rfl, _⟩
    · omega
    · exact ⟨g, cap, rfl⟩
  have hs3 := r2.size
  have eb : x3.heap[W.heap.size]? = (x.alloc (.cells #[.int .i64 a] 3)).heap[W.heap.size]? := r2.block _ hm.lt (fun e => by have := hbo _ e.symm; omega)
  have ec : ∀ k, x3.cell? ⟨W.heap.size, k, none⟩ = (x.alloc (.cells #[.int .i64 a] 3)).cell? ⟨W.heap.size, k, none⟩ := fun k => World.cell?_of_block eb
  refine ⟨v2, v', x3, hv, hrun, ?_, hform, (ec j).trans hv2, (World.frozen?_of_block (a := ⟨W.heap.size, j, none⟩) eb).trans (hm.fz j hj), ⟨?_, ?_, ?_, ?_, ?_⟩⟩
  · obtain ⟨g, cap, rfl⟩ := hform; rfl
  · refine G.set ⟨r2.os.trans hm.g.os, r2.tape.trans hm.g.tape, r2.output.trans hm.g.output, Nat.le_trans hm.g.size hs3, fun b hb => (r2.block b (Nat.lt_of_lt_of_le hb hm.g.size) (fun e => by have := hbo b e.symm; omega)).trans (hm.g.block b hb)⟩ _ _ _ (Nat.le_refl _)
  · rw [World.size_setCell]; exact Nat.lt_of_lt_of_le hm.lt hs3
  · intro k hk
    rw [World.frozen?_setCell, World.frozen?_of_block (a := ⟨W.heap.size, k, none⟩) eb]
    exact hm.fz k hk
  · intro k hk
    by_cases hkj : k = j
    · subst hkj
      refine ⟨v', cell_same _ ((ec k).trans hv2), ?_⟩
      simp only [if_true]
      have : OwnL x3 (W.heap.size + 1) v' (ah k ++ [a]) := by
        show x3.ownsRow (W.heap.size + 1) 3 1 v' (ah k ++ [a]).length ((ah k ++ [a]).map (Value.int .i64))
        rw [List.length_append, List.map_append]
        exact r1
      exact own_kept this (fun b h1 _ => heap_set _ _ (by show b ≠ W.heap.size; omega))
    · obtain ⟨u, hu, hou⟩ := hm.rows k hk
      refine ⟨u, by rw [cell_other _ (Or.inr hkj)]; exact (ec k).trans hu, ?_⟩
      simp only [if_neg hkj]
      rcases hou.2 with h0 | ⟨g, cap, cur, e1, e2, e3, e4⟩
      · exact ⟨hou.1, Or.inl h0⟩
      · refine ⟨hou.1, Or.inr ⟨g, cap, cur, e1, e2, ?_, e4⟩⟩
        have hgl : g < (x.alloc (.cells #[.int .i64 a] 3)).heap.size := by
          rcases Nat.lt_or_ge g (x.alloc (.cells #[.int .i64 a] 3)).heap.size with hh | hh
          · exact hh
          · rw [Array.getElem?_eq_none hh] at e3; cases e3
        refine (heap_set _ _ (by show g ≠ W.heap.size; omega)).trans ((r2.block g hgl (fun e => ?_)).trans e3)
        exact hm.dis k j u v2 g hk hj hkj hu hv2 (by rw [e1]; rfl) e.symm
  · intro k k' u u' q h1 h2 h3 h4 h5 h6 h7
    have key : ∀ k u, k ≠ j → (x3.setCell ⟨W.heap.size, j, none⟩ v').cell? ⟨W.heap.size, k, none⟩ = some u → (x.alloc (.cells #[.int .i64 a] 3)).cell? ⟨W.heap.size, k, none⟩ = some u := fun k u hk hu => by
      rw [cell_other _ (Or.inr hk), ec k] at hu
      exact hu
    have hself : (x3.setCell ⟨W.heap.size, j, none⟩ v').cell? ⟨W.heap.size, j, none⟩ = some v' := cell_same _ ((ec j).trans hv2)
    have clash : ∀ k u, k < N → k ≠ j → (x.alloc (.cells #[.int .i64 a] 3)).cell? ⟨W.heap.size, k, none⟩ = some u → u.ownBlock = some q → v'.ownBlock = some q → False := fun k u hk hkj hu hq hv => by
      rcases r4 with r4 | r4
      · rw [r4] at hv
        exact hm.dis k j u v2 q hk hj hkj hu hv2 hq hv
      · rw [r4] at hv
        obtain ⟨u2, hu2, hou⟩ := hm.rows k hk
        have : u2 = u := Option.some.inj (hu2.symm.trans hu)
        subst this
        have := own_lt hou q hq
        injection hv with hv
        omega
    by_cases hkj : k = j
    · subst hkj
      rw [hself] at h4
      cases h4
      exact clash k' u' h2 (fun e => h3 e.symm) (key k' u' (fun e => h3 e.symm) h5) h7 h6
    · by_cases hkj' : k' = j
      · subst hkj'
        rw [hself] at h5
        cases h5
        exact clash k u h1 hkj (key k u hkj h4) h6 h7
      · exact hm.dis k k' u u' q h1 h2 h3 (key k u hkj h4) (key k' u' hkj' h5) h6 h7
/-- How many follow, of the first n nodes. -/
def totN (nx : Nat → List Int) : Nat → Nat
  | 0 => 0
  | n + 1 => totN nx n + (nx n).length
theorem totN_le (nx : Nat → List Int) : ∀ {n m : Nat}, n ≤ m → totN nx n ≤ totN nx m
  | n, 0, h => by obtain rfl : n = 0 := by omega
                  exact Nat.le_refl _
  | n, m + 1, h => by
    by_cases e : n = m + 1
    · rw [e]; exact Nat.le_refl _
    · have := totN_le nx (n := n) (m := m) (by omega)
      show totN nx n ≤ totN nx m + (nx m).length
      omega
/-- What the rows hold when the nodes below a are done, and j of a's. -/
structure AhP (nx : Nat → List Int) (N a j : Nat) (ah : Nat → List Int) : Prop where
  mem : ∀ k q, k < N → (q ∈ ah k ↔ ∃ b : Nat, q = (b : Int) ∧ ((b < a ∧ (k : Int) ∈ nx b) ∨ (b = a ∧ (k : Int) ∈ (nx a).take j)))
  len : ∀ k, (ah k).length ≤ totN nx a + j
theorem ahp_start (nx : Nat → List Int) (N : Nat) : AhP nx N 0 0 (fun _ => []) := ⟨fun k q _ => by simp, fun k => by simp⟩
theorem AhP.step {nx : Nat → List Int} {N a j : Nat} {ah : Nat → List Int} (h : AhP nx N a j ah) {t : Nat} (ht : (nx a)[j]? = some (t : Int)) : AhP nx N a (j + 1) (fun k => if k = t then ah t ++ [(a : Int)] else ah k) := by
  have htk : (nx a).take (j + 1) = (nx a).take j ++ [(t : Int)] := by rw [List.take_add_one, ht]; rfl
  refine ⟨fun k q hk => ?_, fun k => ?_⟩
  · rw [htk]
    by_cases e : k = t
    · subst e
      simp only [if_true, List.mem_append, List.mem_singleton]
      rw [h.mem k q hk]
      constructor
      · rintro (⟨b, e1, h1⟩ | e1)
        · refine ⟨b, e1, ?_⟩
          rcases h1 with h1 | ⟨h1, h2⟩
          · exact Or.inl h1
          · exact Or.inr ⟨h1, Or.inl h2⟩
        · exact ⟨a, e1, Or.inr ⟨rfl, Or.inr (by first | rfl | trivial)⟩⟩
      · rintro ⟨b, e1, h1⟩
        rcases h1 with h1 | ⟨h1, h2 | _⟩
        · exact Or.inl ⟨b, e1, Or.inl h1⟩
        · exact Or.inl ⟨b, e1, Or.inr ⟨h1, h2⟩⟩
        · exact Or.inr (by rw [e1, h1])
    · simp only [if_neg e, List.mem_append, List.mem_singleton]
      rw [h.mem k q hk]
      have hne : ¬ (k : Int) = (t : Int) := by omega
      simp only [hne, or_false]
  · have h1 := h.len k
    have h2 := h.len t
    show (if k = t then ah t ++ [(a : Int)] else ah k).length ≤ totN nx a + (j + 1)
    split
    · rw [List.length_append]; simp; omega
    · omega
theorem AhP.turn {nx : Nat → List Int} {N a : Nat} {ah : Nat → List Int} (h : AhP nx N a (nx a).length ah) : AhP nx N (a + 1) 0 ah := by
  refine ⟨fun k q hk => ?_, fun k => ?_⟩
  · rw [h.mem k q hk, List.take_of_length_le (Nat.le_refl _)]
    constructor
    · rintro ⟨b, e1, h1⟩
      refine ⟨b, e1, Or.inl ?_⟩
      rcases h1 with ⟨h1, h2⟩ | ⟨h1, h2⟩
      · exact ⟨by omega, h2⟩
      · subst h1; exact ⟨by omega, h2⟩
    · rintro ⟨b, e1, h1⟩
      rcases h1 with ⟨h1, h2⟩ | ⟨_, h2⟩
      · refine ⟨b, e1, ?_⟩
        by_cases e : b = a
        · subst e; exact Or.inr ⟨rfl, h2⟩
        · exact Or.inl ⟨by omega, h2⟩
      · simp at h2
  · have := h.len k
    show (ah k).length ≤ totN nx a + (nx a).length + 0
    omega
set_option maxHeartbeats 2000000 in
theorem ahead_any (w : World) (gB nb N : Nat) (nx : Nat → List Int) (kp st : Nat → Nat) (h : Gr w gB nb N nx kp st) (hN : N ≤ 1000000) (hT : totN nx N ≤ 900000) :
    Calls Tryz.prog 37 #[.pointer (some ⟨gB, 0, none⟩)] w fun e w' => ∃ ah, e = .returned (.slice (some ⟨w.heap.size, 0, none⟩) N N) ∧ AhI w w' N ah ∧ (∀ k q, k < N → (q ∈ ah k ↔ ∃ a : Nat, q = (a : Int) ∧ a < N ∧ (k : Int) ∈ nx a)) ∧ ∀ k, (ah k).length ≤ 900000 := by
  obtain ⟨cap, hc13⟩ := h.c
  have hmk := mk_rows N (by omega) w
  have ST : Hid (AhI w (w.alloc (.cells (madeCells #[.slice none 0 0] N) 55)) N (fun _ => []) ∧ AhP nx N 0 0 (fun _ => [])) := hide ⟨ah_start w N, ahp_start nx N⟩
  have NODE : Hid (∀ a wr, a < N → G w wr → ∃ (s k : Nat) (xo : Option Addr) (xc : Nat), wr.cell? ⟨nb, a * 3, none⟩ = some (.int .u64 (s : Int)) ∧ wr.cell? ⟨nb, a * 3 + 1, none⟩ = some (.int .u64 (k : Int)) ∧ wr.cell? ⟨nb, a * 3 + 2, none⟩ = some (.slice xo (nx a).length xc) ∧ (nx a).length ≤ 1000000 ∧ ∀ j, j < (nx a).length → ∃ (b off t : Nat), xo = some ⟨b, off, none⟩ ∧ (nx a)[j]? = some (t : Int) ∧ t < N ∧ ∀ x, G w x → x.cell? ⟨b, off + j, none⟩ = some (.int .i64 (t : Int))) := hide (fun a wr ha g => by
    obtain ⟨v, hv, hx⟩ := h.next a ha
    have hL := hx w (Kx.refl _ _ _ _)
    obtain ⟨xo, xc, rfl, _, hget⟩ := hL.get
    refine ⟨st a, kp a, xo, xc, g.cell (h.set a ha).1, g.cell (h.kept a ha), g.cell hv, (h.bs a ha).2.2.1, fun j hj => ?_⟩
    obtain ⟨b, off, t, e, ht, hcell⟩ := hget j hj
    obtain ⟨h0, h1⟩ := (h.bs a ha).2.2.2 t (List.mem_of_getElem? ht)
    obtain ⟨t', rfl⟩ : ∃ t' : Nat, t = t' := ⟨t.toNat, by omega⟩
    exact ⟨b, off, t', e, ht, by omega, hcell⟩)
  have APP : Hid (∀ a j ah t x, a < N → (nx a)[j]? = some ((t : Nat) : Int) → t < N → (AhI w x N ah ∧ AhP nx N a j ah) → ∃ v gn cn x3, x.cell? ⟨w.heap.size, t, none⟩ = some v ∧ (Builtin.append_ #[55, 55] 55 #[v, .slice (some ⟨x.heap.size, 0, none⟩) 1 1]).run Tryz.prog (x.alloc (.cells #[.int .i64 (a : Int)] 3)) = .ok (.slice (some ⟨gn, 0, none⟩) ((ah t).length + 1) cn) x3 ∧ x3.cell? ⟨w.heap.size, t, none⟩ = some v ∧ x3.frozen? ⟨w.heap.size, t, none⟩ = false ∧ ∃ ah', AhI w (x3.setCell ⟨w.heap.size, t, none⟩ (.slice (some ⟨gn, 0, none⟩) ((ah t).length + 1) cn)) N ah' ∧ AhP nx N a (j + 1) ah') := hide (fun a j ah t x ha hj ht H => by
    have hlen := H.2.len t
    have htot := totN_le nx (n := a + 1) (m := N) (by omega)
    have hjl := (List.getElem?_eq_some_iff.1 hj).1
    have htot2 : totN nx (a + 1) = totN nx a + (nx a).length := rfl
    obtain ⟨v, v', x3, q1, q2, _, ⟨gn, cn, rfl⟩, q5, q6, q7⟩ := ah_app H.1 t ht (a : Int) (by omega)
    exact ⟨v, gn, cn, x3, q1, q2, q5, q6, _, q7, H.2.step hj⟩)
  have GM : Hid (∀ wr ah x, AhI w wr N ah → G wr x → AhI w x N ah ∧ G w x) := hide (fun wr ah x H g => ⟨H.more g, H.g.trans g⟩)
  have hnb := h.lt
  clear h
  go_enter Tryz.func37, Tryz.ntmps37
  have hc14 : (w.alloc (.cells (madeCells #[.slice none 0 0] N) 55)).cell? ⟨gB, 13, none⟩ = some (.slice (some ⟨nb, 0, none⟩) N cap) := (G.alloc _ _).cell hc13
  go_wp2_with fail
  go_loopw [19] (fun i wr => ∃ (a : Nat) (ah : Nat → List Int), a ≤ N ∧ i = .int .i64 a ∧ Hid (AhI w wr N ah ∧ AhP nx N a 0 ah)) (fun i _ => N - (intOf i).toNat)
  case atStart => exact ⟨0, _, Nat.zero_le _, rfl, ST⟩
  case round =>
    obtain ⟨a, ah, ha, rfl, HA⟩ := hrel
    clear ST hmk hc13 hc14
    by_cases hlt : a < N
    · obtain ⟨s, k, xo, xc, c0, c1, c2, hlen, GET⟩ := unhide NODE a wr hlt (unhide HA).1.g
      replace GET := hide GET
      have HB : Hid (AhI w (wr.alloc (.cells #[.int .u64 (s : Int), .int .u64 (k : Int), .slice xo (nx a).length xc] 57)) N ah ∧ AhP nx N a 0 ah) := hide ⟨(unhide GM wr ah _ (unhide HA).1 (G.alloc _ _)).1, (unhide HA).2⟩
      obtain ⟨L, hL⟩ : ∃ L, L = (nx a).length := ⟨_, rfl⟩
      rw [← hL] at hlen c2 GET HB
      have TU : Hid (∀ ah, AhP nx N a L ah → AhP nx N (a + 1) 0 ah) := hide (fun ah h => by rw [hL] at h; exact h.turn)
      clear HA NODE hL
      have hai : (a : Int) < (N : Int) := by omega
      go_wp2_with fail
      go_loopw [27] (fun i wx => ∃ (j : Nat) (ah : Nat → List Int), j ≤ L ∧ i = .int .i64 j ∧ Hid (AhI w wx N ah ∧ AhP nx N a j ah)) (fun i _ => L - (intOf i).toNat)
      case atStart => exact ⟨0, _, Nat.zero_le _, rfl, HB⟩
      case round =>
        obtain ⟨j, ah2, hj, rfl, HC⟩ := hrel
        clear HB
        by_cases hlj : j < L
        · obtain ⟨b, off, t, rfl, ht, htN, hcell⟩ := unhide GET j hlj
          have hct := hcell wr (unhide HC).1.g
          obtain ⟨v, gn, cn, x3, hv, hrun, hcv, hfv, ah3, hA3⟩ := unhide APP a j ah2 t wr hlt ht htN (unhide HC)
          replace hA3 := hide hA3
          have hti : (t : Int) < (N : Int) := by omega
          have ht0 : (0 : Int) ≤ (t : Int) := by omega
          clear HC GET ht hcell TU APP GM
          go_wp2_with (at_builtin; refine wpl_run rfl (.tmp 36) (.tmp 38) 55 rfl _ _ rfl rfl _ _ hrun ?_; clear hrun)
          go_roundw
          case rel => exact ⟨j + 1, ah3, by omega, by go_num, hA3⟩
          case measure => simp [intOf]; omega
        · obtain rfl : j = L := by omega
          have HD : Hid (AhI w wr N ah2 ∧ AhP nx N (a + 1) 0 ah2) := hide ⟨(unhide HC).1, unhide TU ah2 (unhide HC).2⟩
          clear HC GET TU APP GM
          go_wp2_with fail
          go_roundw
          case rel => exact ⟨a + 1, ah2, by omega, by go_num, HD⟩
          case measure => simp [intOf]; omega
    · obtain rfl : a = N := by omega
      have K : Hid (AhI w wr a ah ∧ (∀ k q, k < a → (q ∈ ah k ↔ ∃ b : Nat, q = (b : Int) ∧ b < a ∧ (k : Int) ∈ nx b)) ∧ ∀ k, (ah k).length ≤ 900000) := hide ⟨(unhide HA).1, fun k q hk => by
        rw [(unhide HA).2.mem k q hk]
        constructor
        · rintro ⟨b, e1, h1 | ⟨_, h2⟩⟩
          · exact ⟨b, e1, h1⟩
          · simp at h2
        · rintro ⟨b, e1, h1⟩
          exact ⟨b, e1, Or.inl h1⟩, fun k => by have := (unhide HA).2.len k; omega⟩
      clear HA NODE APP GM
      go_wp2_with fail
      refine bodyPost_ret (by simp [results, Tryz.results37, go_sem]; try rfl) rfl ?_
      exact ⟨ah, rfl, unhide K⟩
end Go.Proofs.YtnliooflpclcbaaGreatDoor
