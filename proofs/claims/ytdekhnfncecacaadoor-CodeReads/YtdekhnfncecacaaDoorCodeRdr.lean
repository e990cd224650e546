/- The document's own reader (gantlineref9.reader): u, i, n, bools; boxes and rows of the call's own while the reader's block is turned; lists read into a box's field. -/
import Derived.Test.YtdekhnfncecacaaDoorCodeRl0
import Derived.Test.YtdekhnfncecacaaDoorCodeRw
import Derived.Test.YtdekhnfncecacaaDoorCodeGr2
import Derived.Test.YtdekhnfncecacaaDoorCodeRmod
namespace Go.Proofs.YtdekhnfncecacaaDoor
set_option maxRecDepth 100000
open Go.RowKit Go.Maps Go.ChangeShapes Go.WideShapes Go.ChangeAt Go.Deep

/-- The bytes that the reader at rb still has, and whether it has failed. -/
def Dd (w0 w : World) (rb : Nat) (bad : Bool) (zs : List Int) : Prop := ∃ ao n c, RdC w rb (.slice ao n c) bad ∧ n ≤ c ∧ n ≤ 10000000 ∧ (ao = none → c = 0) ∧ Row w0 ao n zs
/-- What it has still to read; none: it has failed. -/
def DdS (w0 w : World) (rb : Nat) : Option (List Int) → Prop
  | none => ∃ zs, Dd w0 w rb true zs
  | some zs => Dd w0 w rb false zs
theorem Dd.lt {w0 w : World} {rb : Nat} {bad : Bool} {zs : List Int} (h : Dd w0 w rb bad zs) : rb < w.heap.size := by obtain ⟨ao, n, c, h, _⟩ := h; exact h.lt
theorem Dd.kept {w0 w w' : World} {rb : Nat} {bad : Bool} {zs : List Int} (h : Dd w0 w rb bad zs) (e : w'.heap[rb]? = w.heap[rb]?) : Dd w0 w' rb bad zs := by obtain ⟨ao, n, c, h, r⟩ := h; exact ⟨ao, n, c, h.kept e, r⟩
theorem DdS.lt {w0 w : World} {rb : Nat} {s : Option (List Int)} (h : DdS w0 w rb s) : rb < w.heap.size := by
  cases s with
  | none => obtain ⟨zs, h⟩ := h; exact h.lt
  | some zs => exact Dd.lt h
theorem DdS.kept {w0 w w' : World} {rb : Nat} {s : Option (List Int)} (h : DdS w0 w rb s) (e : w'.heap[rb]? = w.heap[rb]?) : DdS w0 w' rb s := by
  cases s with
  | none => obtain ⟨zs, h⟩ := h; exact ⟨zs, h.kept e⟩
  | some zs => exact Dd.kept h e
theorem DdS.g {w0 w w' : World} {rb : Nat} {s : Option (List Int)} (h : DdS w0 w rb s) (g : G w w') : DdS w0 w' rb s := h.kept (g.block rb h.lt)
theorem DdS.bad {w0 w : World} {rb : Nat} {s : Option (List Int)} (h : DdS w0 w rb s) : w.cell? ⟨rb, 1, none⟩ = some (.bool s.isNone) := by
  cases s with
  | none => obtain ⟨zs, ao, n, c, h, _⟩ := h; exact h.c1
  | some zs => obtain ⟨ao, n, c, h, _⟩ := h; exact h.c1
theorem DdS.cut {w0 w : World} {rb : Nat} {s : Option (List Int)} (h : DdS w0 w rb s) : ∃ zs, Dd w0 w rb s.isNone zs ∧ (∀ r, s = some r → r = zs) := by
  cases s with
  | none => obtain ⟨zs, h⟩ := h; exact ⟨zs, h, (fun r e => by cases e)⟩
  | some zs => exact ⟨zs, h, (fun r e => (Option.some.inj e).symm)⟩
/-- What a call leaves. -/
def DdTo (w0 w w' : World) (rb : Nat) (s' : Option (List Int)) : Prop := DdS w0 w' rb s' ∧ Tr w w' rb
theorem DdTo.from {w0 w w1 w2 : World} {rb : Nat} {s : Option (List Int)} (h : DdTo w0 w1 w2 rb s) (t : Tr w w1 rb) : DdTo w0 w w2 rb s := ⟨h.1, t.trans h.2⟩

set_option maxHeartbeats 1000000 in
/-- u, where there is none. -/
theorem du_none (w : World) (rb : Nat) (ao : Option Addr) (n c : Nat) (bad : Bool) (h : RdC w rb (.slice ao n c) bad) (u : Nat) (T : Calls Tryd.prog 72 #[.slice ao n c] w fun e w' => e = .returned (.tuple #[.int .u64 (u : Int), .int .i64 0]) ∧ w' = w) :
    Calls Tryd.prog 45 #[.pointer (some ⟨rb, 0, none⟩)] w fun e w' => e = .returned (.int .u64 0) ∧ RdC w' rb (.slice ao n c) true ∧ Tr w w' rb := by
  have HT := hide T
  have F := hide (show RdC (w.setCell ⟨rb, 1, none⟩ (.bool true)) rb (.slice ao n c) true ∧ Tr w (w.setCell ⟨rb, 1, none⟩ (.bool true)) rb from ⟨h.set1 true, Tr.set w rb 1 _⟩)
  obtain ⟨c0, c1, f0, f1⟩ := h
  clear T
  go_enter Tryd.func45, Tryd.ntmps45
  go_wp2_with fail
  refine (unhide HT).mono ?_
  rintro e w1 ⟨rfl, rfl⟩
  go_wp2_with fail
  go_ret
  exact ⟨rfl, unhide F⟩
/-- What u leaves, where there is one of k bytes. -/
def DnTo (w w' : World) (rb b off n c k : Nat) (bad : Bool) : Prop := ∃ off', (n = k ∨ off' = off + k) ∧ RdC w' rb (.slice (some ⟨b, off', none⟩) (n - k) (c - k)) bad ∧ Tr w w' rb
set_option maxHeartbeats 1000000 in
theorem du_some (w : World) (rb b off n c u k : Nat) (bad : Bool) (h : RdC w rb (.slice (some ⟨b, off, none⟩) n c) bad) (hk : 0 < k) (hkn : k ≤ n) (hnc : n ≤ c) (T : Calls Tryd.prog 72 #[.slice (some ⟨b, off, none⟩) n c] w fun e w' => e = .returned (.tuple #[.int .u64 (u : Int), .int .i64 (k : Int)]) ∧ w' = w) :
    Calls Tryd.prog 45 #[.pointer (some ⟨rb, 0, none⟩)] w fun e w' => e = .returned (.int .u64 (u : Int)) ∧ DnTo w w' rb b off n c k bad := by
  have HT := hide T
  have F := hide (fun off' (ho : n = k ∨ off' = off + k) => show DnTo w (w.setCell ⟨rb, 0, none⟩ (.slice (some ⟨b, off', none⟩) (n - k) (c - k))) rb b off n c k bad from ⟨off', ho, h.set0 _, Tr.set _ _ _ _⟩)
  obtain ⟨c0, c1, f0, f1⟩ := h
  have hz : ((k : Int) == 0) = false := beq_eq_false_iff_ne.2 (by omega)
  clear T
  go_enter Tryd.func45, Tryd.ntmps45
  go_wp2_with fail
  refine (unhide HT).mono ?_
  rintro e w1 ⟨rfl, rfl⟩
  go_wp2_with fail
  · obtain rfl : c = k := by omega
    have F1 := unhide F off (Or.inl (by omega))
    rw [Nat.sub_self] at F1
    go_ret
    exact ⟨rfl, F1⟩
  · go_ret
    exact ⟨rfl, unhide F (off + k) (Or.inr rfl)⟩

/-- u over the bytes that are left. -/
theorem du_raw (w0 w : World) (rb : Nat) (bad : Bool) (zs : List Int) (g0 : Below w0.heap.size w0 w) (h : Dd w0 w rb bad zs) :
    Calls Tryd.prog 45 #[.pointer (some ⟨rb, 0, none⟩)] w fun e w' => ∃ u : Nat, e = .returned (.int .u64 (u : Int)) ∧ oU u ∧ Tr w w' rb ∧
      ((pU zs = none ∧ u = 0 ∧ Dd w0 w' rb true zs) ∨ (∃ r, pU zs = some (u, r) ∧ Dd w0 w' rb bad r)) := by
  obtain ⟨ao, n, c, hC, hnc, hn, hnil, hR⟩ := h
  have T := rtake_any ao n c zs w (hR.later g0) hn
  by_cases hz : (takeF zs 0 0).2 = 0
  · rw [hz] at T
    refine (du_none w rb ao n c bad hC _ T).mono ?_
    rintro e w' ⟨rfl, k1, k2⟩
    exact ⟨0, rfl, by unfold oU; decide, k2, Or.inl ⟨by unfold pU; rw [if_pos hz], rfl, ao, n, c, k1, hnc, hn, hnil, hR⟩⟩
  · have hle := takeF_le zs 0 0
    rw [Nat.zero_add, hR.1] at hle
    rcases hR.2.2 with h0 | ⟨b, off, rfl, hc⟩
    · omega
    · refine (du_some w rb b off n c _ _ bad hC (by omega) hle hnc T).mono ?_
      rintro e w' ⟨rfl, off', ho, k1, k2⟩
      refine ⟨_, rfl, takeF_lt zs 0 0 (by decide), k2, Or.inr ⟨_, by unfold pU; rw [if_neg hz], ?_⟩⟩
      refine ⟨_, _, _, k1, by omega, by omega, (fun e => by cases e), ?_⟩
      rcases ho with ho | ho
      · exact ⟨by rw [List.length_drop, hR.1], fun z hz => hR.2.1 z (List.mem_of_mem_drop hz), Or.inl (by omega)⟩
      · rw [ho]; exact hR.drop hle
theorem du (w0 w : World) (rb : Nat) (s : Option (List Int)) (g0 : Below w0.heap.size w0 w) (h : DdS w0 w rb s) :
    Calls Tryd.prog 45 #[.pointer (some ⟨rb, 0, none⟩)] w fun e w' => ∃ (u : Nat) (s' : Option (List Int)), e = .returned (.int .u64 (u : Int)) ∧ oU u ∧ Res pU s u s' ∧ DdTo w0 w w' rb s' := by
  cases s with
  | none =>
    obtain ⟨zs, h⟩ := h
    refine (du_raw w0 w rb true zs g0 h).mono ?_
    rintro e w' ⟨u, rfl, hu, ht, h2⟩
    refine ⟨u, none, rfl, hu, Res.same, ?_, ht⟩
    rcases h2 with ⟨_, _, h3⟩ | ⟨r, _, h3⟩
    · exact ⟨_, h3⟩
    · exact ⟨_, h3⟩
  | some zs =>
    refine (du_raw w0 w rb false zs g0 h).mono ?_
    rintro e w' ⟨u, rfl, hu, ht, h2⟩
    rcases h2 with ⟨h1, _, h3⟩ | ⟨r, h1, h3⟩
    · exact ⟨u, none, rfl, hu, fun z e => by rw [← Option.some.inj e]; exact h1, ⟨_, h3⟩, ht⟩
    · exact ⟨u, some r, rfl, hu, ⟨zs, rfl, h1⟩, h3, ht⟩

set_option maxHeartbeats 400000 in
theorem di (w0 w : World) (rb : Nat) (s : Option (List Int)) (g0 : Below w0.heap.size w0 w) (h : DdS w0 w rb s) :
    Calls Tryd.prog 44 #[.pointer (some ⟨rb, 0, none⟩)] w fun e w' => ∃ (v : Int) (s' : Option (List Int)), e = .returned (.int .i64 v) ∧ oI v ∧ Res pI s v s' ∧ DdTo w0 w w' rb s' := by
  have N := hide (du w0 w rb s g0 h)
  clear h g0
  go_enter Tryd.func44, Tryd.ntmps44
  go_wp2_with fail
  refine (unhide N).mono ?_
  rintro e w1 ⟨u, s', rfl, hu, hr, F⟩
  have Z := hide (rzag_any u hu w1)
  have K := hide (show oI (zagI u) ∧ Res pI s (zagI u) s' ∧ DdTo w0 w w1 rb s' from ⟨by unfold oU at hu; unfold oI zagI; split <;> omega, hr.map zagI, F⟩)
  clear N hu hr F
  go_wp2_with fail
  refine (unhide Z).mono ?_
  rintro e w2 ⟨rfl, rfl⟩
  clear Z
  go_wp2_with fail
  go_ret
  exact ⟨_, s', rfl, unhide K⟩

/-- How many there are to be: so many at least are left; or a list cannot be read. -/
def Nn (s : Option (List Int)) (n : Nat) (s' : Option (List Int)) : Prop := match s' with
  | none => ∀ zs, s = some zs → Byt zs ∧ (pU zs = none ∨ ∃ u r, pU zs = some (u, r) ∧ r.length < u)
  | some r => ∃ zs, s = some zs ∧ pU zs = some (n, r) ∧ n ≤ r.length
theorem Nn.none {α : Type} {o : α → Prop} {e : α → List Int} {p : Prs α} {q : Nat} (c : Cod o e p q) (hq : 0 < q) {s : Option (List Int)} {n : Nat} (h : Nn s n none) (l : List α) : Res (pL p) s l none := by
  intro zs hz
  obtain ⟨hb, h1 | ⟨u, r, h1, h2⟩⟩ := h zs hz
  · unfold pL; rw [h1]
  · unfold pL
    rw [h1]
    have hr : Byt r := by
      have := (cU.bwd zs u r hb h1).2
      rw [this] at hb
      exact hb.right
    refine pN_none c u r hr ?_
    calc r.length < u := h2
      _ ≤ u * q := Nat.le_mul_of_pos_right u hq
theorem Nn.some {s : Option (List Int)} {n : Nat} {r : List Int} (h : Nn s n (some r)) : Res pU s n (some r) := by
  obtain ⟨zs, e, h1, _⟩ := h
  exact ⟨zs, e, h1⟩

set_option maxHeartbeats 1000000 in
theorem dn (w0 w : World) (rb : Nat) (s : Option (List Int)) (g0 : Below w0.heap.size w0 w) (h : DdS w0 w rb s) :
    Calls Tryd.prog 43 #[.pointer (some ⟨rb, 0, none⟩)] w fun e w' => ∃ (n : Nat) (s' : Option (List Int)), e = .returned (.int .i64 (n : Int)) ∧ n ≤ 10000000 ∧ Nn s n s' ∧ DdTo w0 w w' rb s' := by
  obtain ⟨zs, hD, hzs⟩ := h.cut
  have hb : Byt zs := by obtain ⟨ao, n, c, _, _, _, _, hR⟩ := hD; exact hR.2.1
  have N := hide (du_raw w0 w rb s.isNone zs g0 hD)
  clear h g0 hD
  go_enter Tryd.func43, Tryd.ntmps43
  go_wp2_with fail
  refine (unhide N).mono ?_
  rintro e w1 ⟨u, rfl, hu, ht, hcase⟩
  clear N
  have hD1 : ∃ bad r, Dd w0 w1 rb bad r ∧ (u ≤ r.length → ∃ s', Nn s u s' ∧ DdS w0 w1 rb s') ∧ (¬ u ≤ r.length → Nn s 0 none) := by
    rcases hcase with ⟨h1, h2, h3⟩ | ⟨r, h1, h3⟩
    · refine ⟨true, zs, h3, fun _ => ⟨none, fun z e => by rw [hzs z e]; exact ⟨hb, Or.inl h1⟩, zs, h3⟩, fun _ z e => by rw [hzs z e]; exact ⟨hb, Or.inl h1⟩⟩
    · refine ⟨_, r, h3, fun hle => ?_, fun hgt z e => by rw [hzs z e]; exact ⟨hb, Or.inr ⟨u, r, h1, by omega⟩⟩⟩
      cases s with
      | none => exact ⟨none, (fun z e => by cases e), r, h3⟩
      | some z => obtain rfl := hzs z rfl; exact ⟨some r, ⟨z, rfl, h1, hle⟩, h3⟩
  obtain ⟨bad, r, hD, hyes, hno⟩ := hD1
  obtain ⟨ao, n, c, hC, hnc, hn, hnil, hR⟩ := hD
  have hln := hR.1
  obtain ⟨c0, c1, f0, f1⟩ := hC
  have hnw : (n : Int) % 18446744073709551616 = n := by omega
  have hnw2 : (u : Int) < 18446744073709551616 := by unfold oU at hu; omega
  by_cases hle : u ≤ n
  · obtain ⟨s', k1, k2⟩ := hyes (by omega)
    have K := hide (show u ≤ 10000000 ∧ Nn s u s' ∧ DdTo w0 w w1 rb s' from ⟨by omega, k1, k2, ht⟩)
    have hlt : ¬ (n : Int) < (u : Int) := by omega
    have hlt2 : ¬ n < u := by omega
    clear hyes hno hcase hR k1 k2 ht hzs hb hln
    go_wp2_with fail
    go_ret
    exact ⟨u, s', rfl, unhide K⟩
  · have K := hide (show 0 ≤ 10000000 ∧ Nn s 0 none ∧ DdTo w0 w (w1.setCell ⟨rb, 1, none⟩ (.bool true)) rb none from ⟨by omega, hno (by omega), ⟨r, ao, n, c, (RdC.mk c0 c1 f0 f1).set1 true, hnc, hn, hnil, hR⟩, ht.trans (Tr.set w1 rb 1 _)⟩)
    have hlt : (n : Int) < (u : Int) := by omega
    have hlt2 : n < u := by omega
    clear hyes hno hcase hR ht hzs hb hln
    go_wp2_with fail
    go_ret
    exact ⟨0, none, rfl, unhide K⟩

theorem Tr.kx {lo gb rb : Nat} {q : Option Nat} {w w' : World} (h : Tr w w' rb) (hr : rb < lo) : Kx lo gb q w w' := ⟨fun b h1 h2 _ _ => h.block b h2 (by omega), h.size⟩
/-- A box of the call's own, made behind W1, with these cells; beside it the reader's block alone is turned. -/
structure BoxS (W1 : World) (gb rb : Nat) (cs : List Value) (x : World) : Prop where
  lo : W1.heap.size ≤ gb
  ne : gb ≠ rb
  lt : gb < x.heap.size
  cl : CellsAt x gb 0 cs
  fz : ∀ j, j < cs.length → x.frozen? ⟨gb, j, none⟩ = false
  tr : Tr W1 x rb
theorem BoxS.tr' {W1 : World} {gb rb : Nat} {cs : List Value} {x x' : World} (h : BoxS W1 gb rb cs x) (t : Tr x x' rb) : BoxS W1 gb rb cs x' := by
  have e := t.block gb h.lt h.ne
  exact ⟨h.lo, h.ne, Nat.lt_of_lt_of_le h.lt t.size, h.cl.kept e, fun j hj => (World.frozen?_of_block (a := ⟨gb, j, none⟩) e).trans (h.fz j hj), h.tr.trans t⟩
theorem BoxS.at {W1 : World} {gb rb : Nat} {cs : List Value} {x : World} (h : BoxS W1 gb rb cs x) (j : Nat) (v : Value) (hj : cs[j]? = some v) : x.cell? ⟨gb, j, none⟩ = some v := by
  have := h.cl j v hj
  rwa [Nat.zero_add] at this
theorem BoxS.set {W1 : World} {gb rb : Nat} {cs : List Value} {x : World} (h : BoxS W1 gb rb cs x) (j : Nat) (v : Value) (hj : j < cs.length) : BoxS W1 gb rb (cs.set j v) (x.setCell ⟨gb, j, none⟩ v) := by
  refine ⟨h.lo, h.ne, by rw [World.size_setCell]; exact h.lt, fun q u hq => ?_, fun q hq => ?_, ?_⟩
  · rw [Nat.zero_add]
    by_cases hqj : q = j
    · subst hqj
      rw [List.getElem?_set_self hj] at hq
      cases hq
      exact cell_same _ (h.at q _ (List.getElem?_eq_getElem hj))
    · rw [List.getElem?_set_ne (fun e => hqj e.symm)] at hq
      rw [cell_other _ (Or.inr hqj)]
      exact h.at q u hq
  · rw [World.frozen?_setCell]
    rw [List.length_set] at hq
    exact h.fz q hq
  · exact ⟨h.tr.os, h.tr.tape, h.tr.output, by rw [World.size_setCell]; exact h.tr.size, fun b h1 h2 => (heap_set _ _ (by show b ≠ gb; have := h.lo; omega)).trans (h.tr.block b h1 h2)⟩
theorem BoxS.new {W1 x : World} {rb : Nat} (cs : List Value) (ty : TypeId) (t : Tr W1 x rb) (hr : rb < x.heap.size) : BoxS W1 x.heap.size rb cs (x.alloc (.cells cs.toArray ty)) := by
  have e := heap_alloc_new x (.cells cs.toArray ty)
  refine ⟨t.size, by omega, by rw [World.size_alloc]; omega, fun j v hj => ?_, fun j _ => ?_, t.trans (Tr.of_G rb (G.alloc _ _))⟩
  · rw [cell_of_row _ _ _ _ _ _ e, Nat.zero_add]
    simpa using hj
  · unfold World.frozen?
    rw [e]
    simp
theorem DdS.set {w0 x : World} {rb gb j : Nat} {v : Value} {s : Option (List Int)} (h : DdS w0 x rb s) (hne : gb ≠ rb) : DdS w0 (x.setCell ⟨gb, j, none⟩ v) rb s := h.kept (heap_set _ _ (fun e => hne e.symm))
theorem kx_set {lo gb j : Nat} {q : Option Nat} {x : World} (v : Value) : Kx lo gb q x (x.setCell ⟨gb, j, none⟩ v) := ⟨fun _ _ _ h _ => heap_set _ _ h, by rw [World.size_setCell]; exact Nat.le_refl _⟩

/-- The box's field j holds the row v of k things. -/
structure GrT (ty sz : Nat) (wc : World) (gb rb : Nat) (k : Nat) (xs : List Value) (v : Value) (x : World) : Prop where
  size : wc.heap.size ≤ x.heap.size
  bl : ∀ b, b < wc.heap.size → b ≠ gb → b ≠ rb → x.heap[b]? = wc.heap[b]?
  own : x.ownsRow wc.heap.size ty sz v k xs
def GrF {α : Type} (E : El α) (ty lo : Nat) (W1 wc : World) (gb rb j : Nat) (cs : List Value) (l : List α) (v : Value) (x : World) : Prop :=
  BoxS W1 gb rb (cs.set j v) x ∧ ∃ xs, GrT ty E.sz wc gb rb l.length xs v x ∧ ∀ (i : Nat) (a : α), l[i]? = some a → ∃ c, (∀ w', Kx lo gb v.ownBlock x w' → E.cs w' a c) ∧ ∀ q u, c[q]? = some u → xs[i * E.sz + q]? = some u
theorem grf_start {α : Type} {E : El α} {ty lo : Nat} {W1 wc : World} {gb rb j : Nat} {cs : List Value} (h : BoxS W1 gb rb cs wc) (hj : cs[j]? = some (.slice none 0 0)) : GrF E ty lo W1 wc gb rb j cs ([] : List α) (.slice none 0 0) wc := by
  have e : cs.set j (.slice none 0 0) = cs := by
    apply List.ext_getElem?
    intro i
    rw [List.getElem?_set]
    split
    · rename_i h
      subst h
      rw [hj]
      have := (List.getElem?_eq_some_iff.1 hj).1
      simp [this]
    · rfl
  exact ⟨by rw [e]; exact h, [], ⟨Nat.le_refl _, fun _ _ _ _ => rfl, ⟨by simp, Or.inl ⟨rfl, rfl⟩⟩⟩, fun i a h => by simp at h⟩
theorem GrF.tr {α : Type} {E : El α} {ty lo : Nat} {W1 wc : World} {gb rb j : Nat} {cs : List Value} {l : List α} {v : Value} {x x' : World} (h : GrF E ty lo W1 wc gb rb j cs l v x) (t : Tr x x' rb) (hlo : rb < lo) (hrb : rb < wc.heap.size) : GrF E ty lo W1 wc gb rb j cs l v x' := by
  obtain ⟨hB, xs, hT, hel⟩ := h
  refine ⟨hB.tr' t, xs, ⟨Nat.le_trans hT.size t.size, fun b h1 h2 h3 => (t.block b (Nat.lt_of_lt_of_le h1 hT.size) h3).trans (hT.bl b h1 h2 h3), own_kept hT.own (fun b h1 h2 => t.block b h2 (by omega))⟩, fun i a hi => ?_⟩
  obtain ⟨c, c1, c2⟩ := hel i a hi
  refine ⟨c, fun w' k => c1 w' ⟨fun b h1 h2 h3 h4 => (k.1 b h1 (Nat.lt_of_lt_of_le h2 t.size) h3 h4).trans (t.block b h2 (by omega)), Nat.le_trans t.size k.2⟩, c2⟩
theorem grf_app {α : Type} {E : El α} {ty bytes t : Nat} {i : TypeInfo} {z : Value} (ht : Tryd.prog.underlying t = some (.slice ty)) (hi : Tryd.prog.info? ty = some i) (hz : i.zero = some z) (hsz : i.size = E.sz) (hby : i.bytes = bytes) (hzs : z.cells.size = E.sz) (hp : 0 < E.sz) (hbb : bytes ≤ 1000)
    {W1 wc : World} {lo gb rb j : Nat} {cs : List Value} {l : List α} {v : Value} {wr x2 : World} (h : GrF E ty lo W1 wc gb rb j cs l v wr) (hrl : rb < lo) (hlo : lo ≤ gb) (hgb : gb < wc.heap.size) (hj : j < cs.length) (g2 : Tr wr x2 rb) (nb : Nat) (news : List Value) (a : α) (hl : news.length = E.sz) (hE : ∀ w', KeepFrom wr.heap.size x2 w' → E.cs w' a news)
    (hnews : ∀ q u, news[q]? = some u → x2.cell? ((⟨nb, 0, none⟩ : Addr).add q) = some u) (h1 : ∀ u ∈ news, u.oneCell' = true) (hk : l.length < 10000000) :
    ∃ gn cn x3, (Builtin.append_ #[t, t] t #[v, .slice (some ⟨nb, 0, none⟩) 1 1]).run Tryd.prog x2 = .ok (.slice (some ⟨gn, 0, none⟩) (l.length + 1) cn) x3 ∧ x3.cell? ⟨gb, j, none⟩ = some v ∧ x3.frozen? ⟨gb, j, none⟩ = false ∧ x3.heap[rb]? = x2.heap[rb]? ∧ Tr W1 x3 rb ∧ GrF E ty lo W1 wc gb rb j cs (l ++ [a]) (.slice (some ⟨gn, 0, none⟩) (l.length + 1) cn) (x3.setCell ⟨gb, j, none⟩ (.slice (some ⟨gn, 0, none⟩) (l.length + 1) cn)) := by
  have hrb : rb < wc.heap.size := by omega
  have hob : ∀ q, v.ownBlock = some q → q < wr.heap.size := by obtain ⟨_, xs, hT, _⟩ := h; exact own_lt hT.own
  have hwr : wc.heap.size ≤ wr.heap.size := by obtain ⟨_, xs, hT, _⟩ := h; exact hT.size
  have h2 := h.tr g2 hrl hrb
  obtain ⟨hB, xs, hT, hel⟩ := h2
  have hs2 := g2.size
  obtain ⟨v', x3, hrun, r1, r2, _, r4⟩ := run_append_own_at (P := Tryd.prog) x2 wc.heap.size t t ty i z E.sz bytes ht hi hz hsz hby hzs hp v l.length xs hT.own ⟨nb, 0, none⟩ 1 1 news (by rw [hl, Nat.one_mul]) hnews h1 (by unfold maxLen; omega) (Nat.le_trans (Nat.mul_le_mul (show l.length + 1 ≤ 10000000 by omega) hbb) (by decide)) hT.size
  have hbo := own_blk hT.own
  have hbk : ∀ b, b < wc.heap.size → x3.heap[b]? = x2.heap[b]? := fun b hb => r2.block b (Nat.lt_of_lt_of_le hb hT.size) (fun e => by have := hbo b e.symm; omega)
  have hs3 := r2.size
  have hv' : ∃ gn cn, v' = .slice (some ⟨gn, 0, none⟩) (l.length + 1) cn := by
    rcases r1.2 with ⟨_, h0⟩ | ⟨gn, cn, cur, rfl, _⟩
    · omega
    · exact ⟨gn, cn, rfl⟩
  obtain ⟨gn, cn, rfl⟩ := hv'
  have hlo1 := hB.lo
  have B3 : BoxS W1 gb rb (cs.set j v) x3 := by
    have e := hbk gb hgb
    refine ⟨hB.lo, hB.ne, Nat.lt_of_lt_of_le hB.lt hs3, hB.cl.kept e, fun q hq => (World.frozen?_of_block (a := ⟨gb, q, none⟩) e).trans (hB.fz q hq), r2.os.trans hB.tr.os, r2.tape.trans hB.tr.tape, r2.output.trans hB.tr.output, Nat.le_trans hB.tr.size hs3, fun b h1 h2 => (hbk b (by omega)).trans (hB.tr.block b h1 h2)⟩
  have hxl : xs.length = l.length * E.sz := hT.own.1
  have hset : (cs.set j v).set j (.slice (some ⟨gn, 0, none⟩) (l.length + 1) cn) = cs.set j (.slice (some ⟨gn, 0, none⟩) (l.length + 1) cn) := by rw [List.set_set]
  have B4 := B3.set j (.slice (some ⟨gn, 0, none⟩) (l.length + 1) cn) (by rw [List.length_set]; exact hj)
  rw [hset] at B4
  refine ⟨gn, cn, x3, hrun, B3.at j v (by rw [List.getElem?_set_self hj]), B3.fz j (by rw [List.length_set]; exact hj), hbk rb hrb, B3.tr, B4, xs ++ news, ⟨?_, fun b q1 q2 q3 => ?_, ?_⟩, fun i b hi => ?_⟩
  · rw [World.size_setCell]; exact Nat.le_trans hT.size hs3
  · exact (heap_set _ _ q2).trans ((hbk b q1).trans (hT.bl b q1 q2 q3))
  · rw [List.length_append]
    exact own_kept r1 (fun b q1 _ => heap_set _ _ (by show b ≠ gb; omega))
  · by_cases hil : i < l.length
    · rw [List.getElem?_append_left hil] at hi
      obtain ⟨c, c1, c2⟩ := hel i b hi
      refine ⟨c, fun w' k => c1 w' ⟨fun q q1 q2 q3 q4 => ?_, ?_⟩, fun q u hq => ?_⟩
      · refine (k.1 q q1 (by rw [World.size_setCell]; omega) q3 (fun e => ?_)).trans ((heap_set _ _ q3).trans (r2.block q q2 q4))
        rcases r4 with r4 | r4
        · rw [r4] at e; exact q4 e
        · rw [r4] at e; injection e with e; omega
      · have := k.2
        rw [World.size_setCell] at this
        omega
      · have h5 := c2 q u hq
        have := (List.getElem?_eq_some_iff.1 h5).1
        rw [List.getElem?_append_left this]
        exact h5
    · have hi2 : i < (l ++ [a]).length := (List.getElem?_eq_some_iff.1 hi).1
      simp at hi2
      obtain rfl : i = l.length := by omega
      simp at hi
      subst hi
      refine ⟨news, fun w' k => hE w' ⟨fun q q1 q2 => ?_, ?_⟩, fun q u hq => ?_⟩
      · have hne : some q ≠ v.ownBlock := fun e => by have := hob q e.symm; omega
        refine (k.1 q (by omega) (by rw [World.size_setCell]; omega) (by omega) (fun e => ?_)).trans ((heap_set _ _ (by show q ≠ gb; omega)).trans (r2.block q q2 hne))
        rcases r4 with r4 | r4
        · rw [r4] at e; exact hne e
        · rw [r4] at e; injection e with e; omega
      · have := k.2
        rw [World.size_setCell] at this
        omega
      · rw [List.getElem?_append_right (by omega)]
        rw [hxl, Nat.add_sub_cancel_left]
        exact hq
theorem grf_end {α : Type} {E : El α} {ty lo : Nat} {W1 wc : World} {gb rb j : Nat} {cs : List Value} {l : List α} {v : Value} {x : World} (h : GrF E ty lo W1 wc gb rb j cs l v x) (hrl : rb < lo) (hlo : lo ≤ gb) (hgb : gb < wc.heap.size) :
    ∃ ao c, v = .slice ao l.length c ∧ RowX lo gb E x ao l.length c l ∧ BoxS W1 gb rb (cs.set j v) x ∧ Kx lo gb none wc x := by
  obtain ⟨hB, xs, hT, hel⟩ := h
  have hsz := hT.size
  have tail : BoxS W1 gb rb (cs.set j v) x ∧ Kx lo gb none wc x := ⟨hB, ⟨fun b h1 h2 h3 _ => hT.bl b h2 h3 (by omega), hsz⟩⟩
  rcases hT.own.2 with ⟨e1, e2⟩ | ⟨g, cap, cur, e, h2, h3, h4, h5, h6, h7⟩
  · obtain rfl : l = [] := List.eq_nil_of_length_eq_zero e2
    exact ⟨none, 0, e1, fun w' _ => RowAt.nil w', tail⟩
  · have hlt : g < x.heap.size := by
      rcases Nat.lt_or_ge g x.heap.size with hh | hh
      · exact hh
      · rw [Array.getElem?_eq_none hh] at h3; cases h3
    refine ⟨some ⟨g, 0, none⟩, cap, e, fun w' k => ⟨rfl, Nat.le_trans h4 h5, (fun e => by cases e), Or.inr ⟨g, 0, rfl, Nat.lt_of_lt_of_le hlt k.2, fun i a hi => ?_⟩⟩, tail⟩
    obtain ⟨c, c1, c2⟩ := hel i a hi
    refine ⟨c, c1 w' k.of_none, fun q u hq => ?_⟩
    have h8 := c2 q u hq
    rw [← h7, List.getElem?_take] at h8
    split at h8
    · rw [World.cell?_of_block (a := ⟨g, 0 + i * E.sz + q, none⟩) (k.1 g (by omega) hlt (by omega) (by simp)), cell_of_row _ _ _ _ _ _ h3, Nat.zero_add]
      simpa using h8
    · cases h8

theorem res_false2 {r : List Int} {s' : Option (List Int)} {u : Nat} {b : Bool} (h : Res pU (some r) u s') (hu : ¬ u ≤ 1) : Res pB (some r) b none := by
  intro z e
  obtain rfl := Option.some.inj e
  unfold pB pMap pIf
  cases s' with
  | none => rw [h r rfl]
  | some r' =>
    obtain ⟨zs, e2, h1⟩ := h
    obtain rfl := Option.some.inj e2
    rw [h1]
    simp [hu]
theorem map_at {α : Type} (f : α → Value) (l : List α) (i : Nat) (a : α) (h : l[i]? = some a) : (l.map f)[i]? = some (f a) := by simp [h]
/-- A row of the call's own of things of one cell. -/
theorem own_row1 {α : Type} (f : α → Value) {w w' : World} {B ty : Nat} {v : Value} {l : List α} (h : w.ownsRow B ty 1 v l.length (l.map f)) (k : ∀ b, B ≤ b → b < w.heap.size → w'.heap[b]? = w.heap[b]?) (hs : w.heap.size ≤ w'.heap.size) :
    ∃ ao c, v = .slice ao l.length c ∧ RowAt ⟨1, fun _ a cs => cs = [f a]⟩ w' ao l.length c l := by
  rcases h.2 with ⟨rfl, e2⟩ | ⟨g, cap, cur, rfl, h2, h3, h4, h5, h6, h7⟩
  · obtain rfl : l = [] := List.eq_nil_of_length_eq_zero e2
    exact ⟨none, 0, rfl, RowAt.nil w'⟩
  · have hlt : g < w.heap.size := by
      rcases Nat.lt_or_ge g w.heap.size with hh | hh
      · exact hh
      · rw [Array.getElem?_eq_none hh] at h3; cases h3
    refine ⟨some ⟨g, 0, none⟩, cap, rfl, ⟨rfl, Nat.le_trans h4 h5, (fun e => by cases e), Or.inr ⟨g, 0, rfl, by omega, fun i a hi => ⟨[f a], rfl, fun q u hq => ?_⟩⟩⟩⟩
    match q, hq with
    | 0, hq =>
      simp at hq
      subst hq
      have h8 := map_at f l i a hi
      rw [← h7, List.getElem?_take] at h8
      split at h8
      · rw [World.cell?_of_block (a := ⟨g, 0 + i * 1 + 0, none⟩) (k g h2 hlt), cell_of_row _ _ _ _ _ _ h3]
        simpa using h8
      · cases h8
    | q + 1, hq => simp at hq
/-- k of n are read. -/
structure DbI (w0 w1 : World) (rb : Nat) (s1 : Option (List Int)) (k : Nat) (lk : List Bool) (sk : Option (List Int)) (v : Value) (wr : World) : Prop where
  len : lk.length = k
  res : Res (pN pB k) s1 lk sk
  dd : DdS w0 wr rb sk
  tr : Tr w1 wr rb
  own : wr.ownsRow w1.heap.size 4 1 v lk.length (lk.map Value.bool)
theorem db_app {w0 w1 : World} {rb k : Nat} {s1 sk s2 : Option (List Int)} {lk : List Bool} {v : Value} {wr x2 : World} (h : DbI w0 w1 rb s1 k lk sk v wr) (hrb : rb < w1.heap.size) (t : Tr wr x2 rb) (d2 : DdS w0 x2 rb s2) (b : Bool) (hr : Res pB sk b s2) (hk : k < 10000000) :
    ∃ gn cn x3, (Builtin.append_ #[23, 23] 23 #[v, .slice (some ⟨x2.heap.size, 0, none⟩) 1 1]).run Tryd.prog (x2.alloc (.cells #[.bool b] 4)) = .ok (.slice (some ⟨gn, 0, none⟩) (k + 1) cn) x3 ∧ DbI w0 w1 rb s1 (k + 1) (lk ++ [b]) s2 (.slice (some ⟨gn, 0, none⟩) (k + 1) cn) x3 := by
  obtain ⟨hl, hres, hd, ht, ho⟩ := h
  obtain ⟨i, hi, hz, hs, hb⟩ := info_parts info_bool
  have hsz := ht.size
  have hsz2 := t.size
  have ga := G.alloc x2 (.cells #[.bool b] 4)
  have own2 : (x2.alloc (.cells #[.bool b] 4)).ownsRow w1.heap.size 4 1 v lk.length (lk.map Value.bool) := own_kept (own_kept ho (fun q h1 h2 => t.block q h2 (by omega))) (fun q _ h2 => ga.block q h2)
  obtain ⟨v', x3, hrun, r1, r2, _, r4⟩ := run_append_own_at (P := Tryd.prog) (x2.alloc (.cells #[.bool b] 4)) w1.heap.size 23 23 4 i _ 1 1 Tryd.underlying23 hi hz hs hb rfl (by decide) v lk.length _ own2 ⟨x2.heap.size, 0, none⟩ 1 1 [.bool b] rfl
    (fun j u hj => by
      match j, hj with
      | 0, hj => simp at hj; subst hj; rw [Addr.add_lit, cell_of_row _ _ _ _ _ _ (heap_alloc_new x2 _)]; rfl
      | j + 1, hj => simp at hj) (by simp [Value.oneCell']) (by unfold maxLen; omega) (by omega) (by rw [World.size_alloc]; omega)
  have hbo := own_blk own2
  have hv' : ∃ gn cn, v' = .slice (some ⟨gn, 0, none⟩) (k + 1) cn := by
    rcases r1.2 with ⟨_, h0⟩ | ⟨gn, cn, cur, rfl, _⟩
    · omega
    · exact ⟨gn, cn, by rw [hl]⟩
  obtain ⟨gn, cn, rfl⟩ := hv'
  have hbk : ∀ q, q < w1.heap.size → x3.heap[q]? = x2.heap[q]? := fun q hq => (r2.block q (by rw [World.size_alloc]; omega) (fun e => by have := hbo q e.symm; omega)).trans (ga.block q (by omega))
  have hs3 := r2.size
  rw [World.size_alloc] at hs3
  refine ⟨gn, cn, x3, hrun, by simp [hl], hres.step hr, d2.kept (hbk rb hrb), ⟨r2.os.trans (t.os.trans ht.os), r2.tape.trans (t.tape.trans ht.tape), r2.output.trans (t.output.trans ht.output), by omega, fun q h1 h2 => (hbk q h1).trans ((t.block q (by omega) h2).trans (ht.block q h1 h2))⟩, ?_⟩
  rw [List.length_append, List.map_append]
  exact r1

set_option maxHeartbeats 1000000 in
theorem dbools (w0 w : World) (rb : Nat) (s : Option (List Int)) (hrb : w0.heap.size ≤ rb) (g0 : Below w0.heap.size w0 w) (h : DdS w0 w rb s) :
    Calls Tryd.prog 46 #[.pointer (some ⟨rb, 0, none⟩)] w fun e w' => ∃ (ao : Option Addr) (c : Nat) (l : List Bool) (s' : Option (List Int)), e = .returned (.slice ao l.length c) ∧ RowIn w.heap.size elB w' ao l.length c l ∧ Res (pL pB) s l s' ∧ DdTo w0 w w' rb s' := by
  have N := hide (dn w0 w rb s g0 h)
  have hlt := h.lt
  have hB := g0.size
  have G0 := hide g0
  clear h g0
  go_enter Tryd.func46, Tryd.ntmps46
  go_wp2_with fail
  refine (unhide N).mono ?_
  rintro e w1 ⟨n, s1, rfl, hn, hN, hd, hT⟩
  clear N
  have hrb1 : rb < w1.heap.size := Nat.lt_of_lt_of_le hlt hT.size
  have G1 : Hid (∀ x, Tr w1 x rb → Below w0.heap.size w0 x) := hide (fun x t => Below.trans (unhide G0) ((hT.trans t).below hB hrb))
  have ST : Hid (DbI w0 w1 rb s1 0 [] s1 (.slice none 0 0) w1) := hide ⟨rfl, Res.zero s1, hd, Tr.refl _ _, ⟨by simp, Or.inl ⟨rfl, rfl⟩⟩⟩
  have EN : Hid (∀ k lk sk v wr, DbI w0 w1 rb s1 k lk sk v wr → k ≤ n → (sk = none ∨ k = n) → ∃ (ao : Option Addr) (c : Nat) (s' : Option (List Int)), v = .slice ao lk.length c ∧ RowIn w.heap.size elB wr ao lk.length c lk ∧ Res (pL pB) s lk s' ∧ DdTo w0 w wr rb s') := hide (fun k lk sk v wr H hk hor => by
    obtain ⟨hl, hres, hdd, ht, ho⟩ := H
    have hsw := hT.size
    obtain ⟨ao, c, rfl, _⟩ := own_row1 Value.bool (w' := wr) ho (fun _ _ _ => rfl) (Nat.le_refl _)
    have hrow : RowIn w.heap.size elB wr ao lk.length c lk := fun w2 k2 => by
      obtain ⟨ao', c', e, hR⟩ := own_row1 Value.bool (w' := w2) ho (fun b h1 h2 => k2.1 b (by omega) h2) k2.2
      cases e
      exact hR
    refine ⟨ao, c, sk, rfl, hrow, ?_, hdd, hT.trans ht⟩
    cases s1 with
    | none =>
      have : sk = none := by
        cases sk with
        | none => rfl
        | some r => obtain ⟨z, e, _⟩ := hres; cases e
      subst this
      exact Nn.none cB (by decide) hN lk
    | some r1 =>
      rcases hor with rfl | rfl
      · exact Res.dead hN.some hres hk
      · exact Res.list hN.some hres)
  clear hN hd hT G0 hlt
  go_wp2_with fail
  go_loopw [3, 5] (fun v i wr => ∃ (k : Nat) (lk : List Bool) (sk : Option (List Int)), k ≤ n ∧ i = .int .i64 k ∧ Hid (DbI w0 w1 rb s1 k lk sk v wr)) (fun _ i _ => n - (intOf i).toNat)
  case atStart => exact ⟨0, [], s1, Nat.zero_le _, rfl, ST⟩
  case round =>
    obtain ⟨k, lk, sk, hk, rfl, H⟩ := hrel
    clear ST
    have hbad := (unhide H).dd.bad
    by_cases hlk : k < n
    · have hki : (k : Int) < (n : Int) := by omega
      cases sk with
      | none =>
        have hbad : wr.cell? ⟨rb, 1, none⟩ = some (.bool true) := hbad
        obtain ⟨ao, c, s', rfl, q1⟩ := unhide EN k lk none _ wr (unhide H) hk (Or.inl rfl)
        replace q1 := hide q1
        clear H EN
        go_wp2_with fail
        go_ret
        exact ⟨ao, c, lk, s', rfl, unhide q1⟩
      | some r =>
        have hbad : wr.cell? ⟨rb, 1, none⟩ = some (.bool false) := hbad
        have U := hide (du w0 wr rb (some r) (unhide G1 wr (unhide H).tr) (unhide H).dd)
        clear EN
        go_wp2_with fail
        refine (unhide U).mono ?_
        rintro e x1 ⟨u, s2, rfl, hu, hr, d2, t2⟩
        clear U
        have hui : (u : Int) < 18446744073709551616 := by unfold oU at hu; omega
        by_cases h1 : u ≤ 1
        · have hcase : u = 0 ∨ u = 1 := by omega
          clear hui h1
          rcases hcase with rfl | rfl
          · have AP := hide (db_app (unhide H) hrb1 t2 d2 false (res_truth hr (by decide)) (by omega))
            clear H hr d2 t2 hu hbad
            go_wp2_with (at_builtin; obtain ⟨gn, cn, x3, hrun, HG⟩ := unhide AP; replace HG := hide HG; refine wpl_run rfl (.tmp 28) (.tmp 31) 23 rfl _ _ rfl rfl _ _ hrun ?_; clear hrun AP)
            go_roundw
            case rel => exact ⟨k + 1, _, _, by omega, by go_num, HG⟩
            case measure => simp [intOf]; omega
          · have AP := hide (db_app (unhide H) hrb1 t2 d2 true (res_truth hr (by decide)) (by omega))
            clear H hr d2 t2 hu hbad
            go_wp2_with (at_builtin; obtain ⟨gn, cn, x3, hrun, HG⟩ := unhide AP; replace HG := hide HG; refine wpl_run rfl (.tmp 28) (.tmp 31) 23 rfl _ _ rfl rfl _ _ hrun ?_; clear hrun AP)
            go_roundw
            case rel => exact ⟨k + 1, _, _, by omega, by go_num, HG⟩
            case measure => simp [intOf]; omega
        · have hbe : (((u : Nat) : Int) == 1) = false := beq_eq_false_iff_ne.2 (by omega)
          have h1i : (1 : Int) < (u : Int) := by omega
          obtain ⟨zs, ⟨ao, m, c, hC, hC2⟩, _⟩ := d2.cut
          have d3 : DdS w0 (x1.setCell ⟨rb, 1, none⟩ (.bool true)) rb none := ⟨zs, ao, m, c, hC.set1 true, hC2⟩
          have AP := hide (db_app (unhide H) hrb1 (t2.trans (Tr.set x1 rb 1 _)) d3 false (res_false2 hr h1) (by omega))
          obtain ⟨c0, c1, f0, f1⟩ := hC
          clear H hr d2 d3 t2 hu hbad hC2
          go_wp2_with (at_builtin; obtain ⟨gn, cn, x3, hrun, HG⟩ := unhide AP; replace HG := hide HG; rw [World.size_setCell] at hrun; refine wpl_run rfl (.tmp 28) (.tmp 31) 23 rfl _ _ rfl rfl _ _ hrun ?_; clear hrun AP)
          go_roundw
          case rel => exact ⟨k + 1, _, _, by omega, by go_num, HG⟩
          case measure => simp [intOf]; omega
    · obtain rfl : k = n := by omega
      obtain ⟨ao, c, s', rfl, q1⟩ := unhide EN k lk sk _ wr (unhide H) hk (Or.inr rfl)
      replace q1 := hide q1
      clear H EN
      go_wp2_with fail
      go_ret
      exact ⟨ao, c, lk, s', rfl, unhide q1⟩

/-- k are read; they lie in the box's field j. -/
structure LrI {α : Type} (E : El α) (p : Prs α) (ok : α → Prop) (ty : Nat) (w0 W1 wc : World) (gb rb j : Nat) (cs : List Value) (s1 : Option (List Int)) (k : Nat) (lk : List α) (sk : Option (List Int)) (v : Value) (wr : World) : Prop where
  len : lk.length = k
  ok : ∀ a ∈ lk, ok a
  res : Res (pN p k) s1 lk sk
  dd : DdS w0 wr rb sk
  gr : GrF E ty W1.heap.size W1 wc gb rb j cs lk v wr
theorem LrI.start {α : Type} {E : El α} {p : Prs α} {ok : α → Prop} {ty : Nat} {w0 W1 wc : World} {gb rb j : Nat} {cs : List Value} {s1 : Option (List Int)} (h : BoxS W1 gb rb cs wc) (hj : cs[j]? = some (.slice none 0 0)) (hd : DdS w0 wc rb s1) : LrI E p ok ty w0 W1 wc gb rb j cs s1 0 [] s1 (.slice none 0 0) wc :=
  ⟨rfl, (fun a ha => by cases ha), Res.zero s1, hd, grf_start h hj⟩
/-- What is known when no more are read. -/
def LrE {α : Type} (E : El α) (p : Prs α) (ok : α → Prop) (w0 W1 wc : World) (gb rb j : Nat) (cs : List Value) (s : Option (List Int)) (lk : List α) (sk : Option (List Int)) (v : Value) (wr : World) : Prop :=
  ∃ ao c, v = .slice ao lk.length c ∧ RowX W1.heap.size gb E wr ao lk.length c lk ∧ BoxS W1 gb rb (cs.set j v) wr ∧ Kx W1.heap.size gb none wc wr ∧ Res (pL p) s lk sk ∧ DdS w0 wr rb sk ∧ (∀ a ∈ lk, ok a)
theorem LrI.done {α : Type} {E : El α} {p : Prs α} {ok : α → Prop} {o : α → Prop} {e : α → List Int} {q : Nat} (c : Cod o e p q) (hq : 0 < q) {ty : Nat} {w0 W1 wc : World} {gb rb j : Nat} {cs : List Value} {s s1 : Option (List Int)} {n k : Nat} {lk : List α} {sk : Option (List Int)} {v : Value} {wr : World} (hN : Nn s n s1)
    (H : LrI E p ok ty w0 W1 wc gb rb j cs s1 k lk sk v wr) (hrb : rb < W1.heap.size) (hlo : W1.heap.size ≤ gb) (hgb : gb < wc.heap.size) (hk : k ≤ n) (hor : sk = none ∨ k = n) : LrE E p ok w0 W1 wc gb rb j cs s lk sk v wr := by
  obtain ⟨ao, c', e1, h1, h2, h3⟩ := grf_end H.gr hrb hlo hgb
  refine ⟨ao, c', e1, h1, h2, h3, ?_, H.dd, H.ok⟩
  have hres := H.res
  cases s1 with
  | none =>
    have : sk = none := by
      cases sk with
      | none => rfl
      | some r => obtain ⟨z, e, _⟩ := hres; cases e
    subst this
    exact Nn.none c hq hN lk
  | some r1 =>
    rcases hor with rfl | rfl
    · exact Res.dead hN.some hres hk
    · exact Res.list hN.some hres
theorem LrI.app {α : Type} {E : El α} {p : Prs α} {ok : α → Prop} {ty bytes t : Nat} {i : TypeInfo} {z : Value} (ht : Tryd.prog.underlying t = some (.slice ty)) (hi : Tryd.prog.info? ty = some i) (hz : i.zero = some z) (hsz : i.size = E.sz) (hby : i.bytes = bytes) (hzs : z.cells.size = E.sz) (hp : 0 < E.sz) (hbb : bytes ≤ 1000)
    {w0 W1 wc : World} {gb rb j : Nat} {cs : List Value} {s1 : Option (List Int)} {k : Nat} {lk : List α} {sk s2 : Option (List Int)} {v : Value} {wr x1 : World} (H : LrI E p ok ty w0 W1 wc gb rb j cs s1 k lk sk v wr) (hrb : rb < W1.heap.size) (hlo : W1.heap.size ≤ gb) (hgb : gb < wc.heap.size) (hj : j < cs.length)
    (t1 : Tr wr x1 rb) (d2 : DdS w0 x1 rb s2) (news : List Value) (a : α) (hr : Res p sk a s2) (oa : ok a) (hl : news.length = E.sz) (hE : ∀ w', KeepFrom wr.heap.size x1 w' → E.cs w' a news) (h1 : ∀ u ∈ news, u.oneCell' = true) (hk : k < 10000000) :
    ∃ gn cn x3, (Builtin.append_ #[t, t] t #[v, .slice (some ⟨x1.heap.size, 0, none⟩) 1 1]).run Tryd.prog (x1.alloc (.cells news.toArray ty)) = .ok (.slice (some ⟨gn, 0, none⟩) (k + 1) cn) x3 ∧ x3.cell? ⟨gb, j, none⟩ = some v ∧ x3.frozen? ⟨gb, j, none⟩ = false ∧
      LrI E p ok ty w0 W1 wc gb rb j cs s1 (k + 1) (lk ++ [a]) s2 (.slice (some ⟨gn, 0, none⟩) (k + 1) cn) (x3.setCell ⟨gb, j, none⟩ (.slice (some ⟨gn, 0, none⟩) (k + 1) cn)) := by
  have ga := G.alloc x1 (.cells news.toArray ty)
  have hlen := H.len
  obtain ⟨gn, cn, x3, q1, q2, q3, q4, q5, q6⟩ := grf_app ht hi hz hsz hby hzs hp hbb H.gr hrb hlo hgb hj (t1.trans (Tr.of_G rb ga)) x1.heap.size news a hl (fun w' kf => hE w' ⟨fun b h1 h2 => (kf.1 b h1 (Nat.lt_of_lt_of_le h2 ga.size)).trans (ga.block b h2), Nat.le_trans ga.size kf.2⟩)
    (fun q u hq => by rw [Addr.add_lit, Nat.zero_add, cell_of_row _ _ _ _ _ _ (heap_alloc_new x1 _)]; simpa using hq) h1 (by omega)
  rw [hlen] at q1 q6
  refine ⟨gn, cn, x3, q1, q2, q3, by simp [hlen], fun b hb => ?_, H.res.step hr, ?_, q6⟩
  · rcases List.mem_append.1 hb with hb | hb
    · exact H.ok b hb
    · simp at hb; rw [hb]; exact oa
  · have hne := H.gr.1.ne
    exact (d2.kept ((q4.trans (ga.block rb d2.lt)))).set hne
theorem RowIn.x {α : Type} {lo lo' gb : Nat} {E : El α} {w : World} {ao : Option Addr} {n c : Nat} {l : List α} (h : RowIn lo' E w ao n c l) (h1 : lo ≤ lo') (h2 : gb < lo') : RowX lo gb E w ao n c l := fun w' k => h w' ⟨fun b q1 q2 => k.1 b (by omega) q2 (by omega) (by simp), k.2⟩
theorem BoxS.keep {W1 : World} {gb rb : Nat} {cs : List Value} {x : World} (h : BoxS W1 gb rb cs x) (b i : Nat) (v : Value) (hb : W1.cell? ⟨b, i, none⟩ = some v) (hne : b ≠ rb) : x.cell? ⟨b, i, none⟩ = some v :=
  (World.cell?_of_block (h.tr.block b (World.block_lt_of_cell? W1 _ hb) hne)).trans hb
theorem BoxS.keepf {W1 : World} {gb rb : Nat} {cs : List Value} {x : World} (h : BoxS W1 gb rb cs x) (b i : Nat) (hb : b < W1.heap.size) (hf : W1.frozen? ⟨b, i, none⟩ = false) (hne : b ≠ rb) : x.frozen? ⟨b, i, none⟩ = false :=
  (World.frozen?_of_block (a := ⟨b, i, none⟩) (h.tr.block b hb hne)).trans hf
end Go.Proofs.YtdekhnfncecacaaDoor
