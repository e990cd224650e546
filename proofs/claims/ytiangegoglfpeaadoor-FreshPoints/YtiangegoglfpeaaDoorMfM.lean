/- Here, one behind the other: FrKat, FrStates, FrTree, FrTree2, FrTree3, FrTree4, FrGo, FrGo2, FrSets. -/
import Derived.Test.YtiangegoglfpeaaDoorFrSettle
import Derived.Test.YtiangegoglfpeaaDoorFrCase
import Derived.Laws.BitsAllLaws
import Derived.Test.YtiangegoglfpeaaDoorFrMem
import Derived.Test.YtiangegoglfpeaaDoorFrKn
/- Package fresh: what is known ahead of an instruction, told slot by slot. -/
namespace Go.Proofs.YtiangegoglfpeaaDoor
set_option maxRecDepth 100000
open Go.RowKit Go.Maps Go.ChangeShapes Go.WideShapes Go.ChangeAt Go.Deep

set_option maxHeartbeats 1000000 in
theorem knownAt_any {W0 : World} {M : Nat → Prop} {B gB ab wb N : Nat} {z : Gk} {m : Md} {f : Fn} {w : World} {s : FSt} {P : Nat → Nat} {qv : Value} (h : GI W0 M B gB ab wb N (gC z m f ab wb N) w s P qv) (n : Nat) (hn : n < N) :
    Calls Tryd.prog 22 #[.pointer (some ⟨gB, 0, none⟩), .int .i64 (n : Int)] w fun e w' => e = .returned (.agg (knC (kAt s n)).toArray) ∧ G w w' := by
  have c16 : w.cell? ⟨gB, 16, none⟩ = some (.slice (some ⟨ab, 0, none⟩) N N) := (gc_cells h.q.s).2.2.2.2.2.2.2.2.2.2.2.2.2.2.2.2.1
  have hnI : (n : Int) < (N : Int) := by omega
  have hn0 : (0 : Int) ≤ (n : Int) := by omega
  cases ha : s.A.getD n none with
  | none =>
    have ca := h.a0 n hn ha
    have ek : kAt s n = Kn.zero := by unfold kAt; rw [ha]; rfl
    rw [ek]
    have ZV := zero_known
    clear h ha ek hn
    go_enter Tryd.func22, Tryd.ntmps22
    go_upto_region 1 with (refine wpl_alk rfl rfl ?_; intro w1 g1 k1 z1; replace g1 := hide g1; replace k1 := hide k1; replace z1 := hide z1)
    try simp only [Act.put, List.setIfInBounds_toArray, List.set_cons_zero, List.set_cons_succ]
    have d16 := (unhide g1).cell c16
    have da := (unhide g1).cell ca
    clear c16 ca
    go_wp2_with (refine wpl_stk rfl (.tmp 4) (.tmp 13) rfl w.heap.size Kn.zero Kn.zero rfl rfl (unhide k1) Kn.zero_ok ?_; intro w9 k9 t9 z9; replace k9 := hide k9; replace t9 := hide t9; replace z9 := hide z9)
    refine bodyPost_ret (res_known rfl _ _ _ _ rfl (unhide k9)) rfl ?_
    exact ⟨rfl, new_g (unhide g1) (unhide t9)⟩
  | some k =>
    obtain ⟨ca, kj, _⟩ := h.a1 n k hn ha
    have ek : kAt s n = k := by unfold kAt; rw [ha]; rfl
    rw [ek]
    have eqp := fun x => eq_ptr_nil x ⟨P n, 0, none⟩
    replace kj := hide kj
    clear h ha ek hn
    go_enter Tryd.func22, Tryd.ntmps22
    go_upto_region 1 with (refine wpl_alk rfl rfl ?_; intro w1 g1 k1 z1; replace g1 := hide g1; replace k1 := hide k1; replace z1 := hide z1)
    try simp only [Act.put, List.setIfInBounds_toArray, List.set_cons_zero, List.set_cons_succ]
    have d16 := (unhide g1).cell c16
    have da := (unhide g1).cell ca
    have j1 := hide ((unhide kj).g (unhide g1))
    clear c16 ca
    go_wp2_with (first
      | (refine wpl_ldk rfl (.tmp 21) rfl (P n) k rfl (unhide j1) ?_)
      | (refine wpl_stk rfl (.tmp 4) (.tmp 22) rfl w.heap.size Kn.zero k rfl rfl (unhide k1) (unhide j1).ok ?_; intro w9 k9 t9 z9; replace k9 := hide k9; replace t9 := hide t9; replace z9 := hide z9))
    refine bodyPost_ret (res_known rfl _ _ _ _ rfl (unhide k9)) rfl ?_
    exact ⟨rfl, new_g (unhide g1) (unhide t9)⟩
/-- What is known of a slot. -/
structure Stt where
  y : Bool
  o : Bool
  w : Nat
def sttP (k : Kn) (i : Nat) : Stt := ⟨k.y &&& bitP (i : Int) != 0, k.o &&& bitP (i : Int) != 0, k.ws.getD i 0⟩
def elSt : El Stt := ⟨3, fun _ s cs => cs = [.bool s.y, .bool s.o, .int .u64 (s.w : Int)]⟩
theorem okSt : elSt.Ok := ⟨by decide, fun _ _ _ h => by rw [show _ = _ from h]; rfl, fun _ _ _ _ h _ _ => h⟩
end Go.Proofs.YtiangegoglfpeaaDoor

/- Package fresh: the states of the first slots. -/
namespace Go.Proofs.YtiangegoglfpeaaDoor
set_option maxRecDepth 100000
open Go.RowKit Go.Maps Go.ChangeShapes Go.WideShapes Go.ChangeAt Go.Deep

theorem info_state : (Tryd.prog.info? 59).map (fun i => (i.zero, i.size, i.bytes)) = some (some (.agg #[.bool false, .bool false, .int .u64 0]), 3, 16) := by kernel_rfl
theorem mk_states (n : Nat) (hn : n ≤ 10000000) (w : World) : (Instr.makeSlice 54 (.int .i64 (n : Int)) (.int .i64 (n : Int))).run Tryd.prog w = .ok (.slice (some ⟨w.heap.size, 0, none⟩) n n) (w.alloc (.cells (madeCells #[.bool false, .bool false, .int .u64 0] (n * 3)) 59)) := by
  obtain ⟨i, hi, hz, hs, hb⟩ := info_parts info_state
  have := run_make (P := Tryd.prog) w 54 59 i (.agg #[.bool false, .bool false, .int .u64 0]) Tryd.underlying54 hi hz .i64 .i64 (n : Int) (n : Int) (by omega) (by omega) (by rw [hb]; omega) (by omega)
  rw [this, hs, Int.toNat_natCast]
  rfl
/-- The first t states of a made row are written. -/
structure StI (w : World) (n t : Nat) (f : Nat → Stt) (wr : World) : Prop where
  g : G w wr
  lt : w.heap.size < wr.heap.size
  done : ∀ i, i < t → CellsAt wr w.heap.size (i * 3) [.bool (f i).y, .bool (f i).o, .int .u64 ((f i).w : Int)]
  thr : ∀ i, i < 3 * n → (wr.cell? ⟨w.heap.size, i, none⟩).isSome = true ∧ wr.frozen? ⟨w.heap.size, i, none⟩ = false
theorem sti_start (w : World) (n : Nat) (f : Nat → Stt) : StI w n 0 f (w.alloc (.cells (madeCells #[.bool false, .bool false, .int .u64 0] (n * 3)) 59)) := by
  have e := heap_alloc_new w (.cells (madeCells #[.bool false, .bool false, .int .u64 0] (n * 3)) 59)
  refine ⟨G.alloc _ _, by rw [World.size_alloc]; omega, (fun i hi => by omega), fun j hj => ⟨?_, ?_⟩⟩
  · rw [cell_of_row _ _ j _ _ _ e]
    have : j < (madeCells #[.bool false, .bool false, .int .u64 0] (n * 3)).size := by rw [size_madeCells]; omega
    rw [Array.getElem?_eq_getElem this]
    rfl
  · unfold World.frozen?
    rw [e]
    simp
theorem StI.step {w : World} {n t : Nat} {f : Nat → Stt} {wr : World} (h : StI w n t f wr) (ht : t < n) : StI w n (t + 1) f (((wr.setCell ⟨w.heap.size, t * 3, none⟩ (.bool (f t).y)).setCell ⟨w.heap.size, t * 3 + 1, none⟩ (.bool (f t).o)).setCell ⟨w.heap.size, t * 3 + 2, none⟩ (.int .u64 ((f t).w : Int))) := by
  have e : ((wr.setCell ⟨w.heap.size, t * 3, none⟩ (.bool (f t).y)).setCell ⟨w.heap.size, t * 3 + 1, none⟩ (.bool (f t).o)).setCell ⟨w.heap.size, t * 3 + 2, none⟩ (.int .u64 ((f t).w : Int)) = setN wr w.heap.size (t * 3) [.bool (f t).y, .bool (f t).o, .int .u64 ((f t).w : Int)] := rfl
  rw [e]
  have hs : ∀ i, i < ([.bool (f t).y, .bool (f t).o, .int .u64 ((f t).w : Int)] : List Value).length → (wr.cell? ⟨w.heap.size, t * 3 + i, none⟩).isSome = true := fun i hi => (h.thr _ (by simp at hi; omega)).1
  refine ⟨⟨h.g.os, h.g.tape, h.g.output, by rw [setN_size]; exact h.g.size, fun k hk => (setN_heap _ _ _ _ _ (by omega)).trans (h.g.block k hk)⟩, by rw [setN_size]; exact h.lt, fun i hi => ?_, fun i hi => ⟨setN_some _ _ _ _ _ hs (h.thr i hi).1, by rw [setN_fro]; exact (h.thr i hi).2⟩⟩
  by_cases e2 : i = t
  · subst e2
    exact fun j v hv => setN_in _ _ _ _ j v hv hs
  · intro j v hv
    have hj : j < 3 := by have := (List.getElem?_eq_some_iff.1 hv).1; simpa using this
    rw [setN_out _ _ _ _ _ (by simp; omega)]
    exact h.done i (by omega) j v hv
theorem StI.row {w : World} {n : Nat} {f : Nat → Stt} {wr : World} (h : StI w n n f wr) (hn : n ≤ 10000000) (l : List Stt) (hl : l.length = n) (hf : ∀ i a, l[i]? = some a → a = f i) : RowAt elSt wr (some ⟨w.heap.size, 0, none⟩) n n l := by
  refine ⟨hl, by unfold maxLen; omega, (fun e => by cases e), Or.inr ⟨w.heap.size, 0, rfl, h.lt, fun i a hi => ⟨_, rfl, ?_⟩⟩⟩
  have hil := (List.getElem?_eq_some_iff.1 hi).1
  rw [hf i a hi, Nat.zero_add]
  exact h.done i (by omega)
theorem StI.gg {w : World} {n t : Nat} {f : Nat → Stt} {wr z : World} (s1 : StI w n t f wr) (gz : G wr z) : StI w n t f z := by
  refine ⟨s1.g.trans gz, Nat.lt_of_lt_of_le s1.lt gz.size, fun i hi => (s1.done i hi).kept (gz.block _ s1.lt), fun i hi => ⟨?_, ?_⟩⟩
  · rw [World.cell?_of_block (a := ⟨w.heap.size, i, none⟩) (gz.block _ s1.lt)]; exact (s1.thr i hi).1
  · rw [fro_of_block (x := ⟨w.heap.size, i, none⟩) (gz.block _ s1.lt)]; exact (s1.thr i hi).2
/-- The states of a row's slots, in new memory. -/
def SttTo (w : World) (l : List Stt) (e : Ending) (w' : World) : Prop := ∃ b, e = .returned (.slice (some ⟨b, 0, none⟩) l.length l.length) ∧ w.heap.size ≤ b ∧ RowAt elSt w' (some ⟨b, 0, none⟩) l.length l.length l ∧ G w w'
def sttL (k : Kn) (n : Nat) : List Stt := (List.range n).map (sttP k)
set_option maxHeartbeats 1000000 in
theorem states_any {w : World} {b : Nat} {k : Kn} (h : KnAt w b k) (n : Nat) (hn : n ≤ 64) : Calls Tryd.prog 24 #[.pointer (some ⟨b, 0, none⟩), .int .i64 (n : Int)] w (SttTo w (sttL k n)) := by
  have mk := mk_states n (by omega)
  have hbl := h.lt
  have ST := hide (sti_start w n (sttP k))
  have FI : Hid (∀ wr, StI w n n (sttP k) wr → SttTo w (sttL k n) (.returned (.slice (some ⟨w.heap.size, 0, none⟩) n n)) wr) := hide fun wr hs => by
    have hl : (sttL k n).length = n := by simp [sttL]
    refine ⟨w.heap.size, by rw [hl], Nat.le_refl _, ?_, hs.g⟩
    rw [hl]
    exact hs.row (by omega) _ hl (fun i a ha => by
      unfold sttL at ha
      rw [List.getElem?_map] at ha
      obtain ⟨x, hx, e⟩ := Option.map_eq_some_iff.1 ha
      have := (List.getElem?_eq_some_iff.1 hx).2
      simp at this
      rw [← e, this])
  have RD : Hid (∀ (t : Nat) (wr : World), t < n → StI w n t (sttP k) wr → ∃ (bt : Nat) (y o : Bool) (x : Nat), (∀ w2 : World, Calls Tryd.prog 19 #[.int .i64 (t : Int)] w2 fun e w' => e = .returned (.int .u64 (bt : Int)) ∧ w' = w2) ∧ wr.cell? ⟨b, 0, none⟩ = some (.int .u64 (k.y : Int)) ∧ wr.cell? ⟨b, 1, none⟩ = some (.int .u64 (k.o : Int)) ∧ wr.cell? ⟨b, 2 + t, none⟩ = some (.int .u64 (x : Int)) ∧ bits .and .u64 (k.y : Int) (bt : Int) = ((k.y &&& bt : Nat) : Int) ∧ bits .and .u64 (k.o : Int) (bt : Int) = ((k.o &&& bt : Nat) : Int) ∧ (((k.y &&& bt : Nat) : Int) != 0) = y ∧ (((k.o &&& bt : Nat) : Int) != 0) = o ∧
      (∃ u, wr.cell? ⟨w.heap.size, t * 3, none⟩ = some u) ∧ wr.frozen? ⟨w.heap.size, t * 3, none⟩ = false ∧ (∃ u, wr.cell? ⟨w.heap.size, t * 3 + 1, none⟩ = some u) ∧ wr.frozen? ⟨w.heap.size, t * 3 + 1, none⟩ = false ∧ (∃ u, wr.cell? ⟨w.heap.size, t * 3 + 2, none⟩ = some u) ∧ wr.frozen? ⟨w.heap.size, t * 3 + 2, none⟩ = false ∧
      (∀ z, G (((wr.setCell ⟨w.heap.size, t * 3, none⟩ (.bool y)).setCell ⟨w.heap.size, t * 3 + 1, none⟩ (.bool o)).setCell ⟨w.heap.size, t * 3 + 2, none⟩ (.int .u64 (x : Int))) z → StI w n (t + 1) (sttP k) z)) := hide fun t wr ht hs => by
    have kk := h.g hs.g
    have hx : k.ws[t]? = some (k.ws.getD t 0) := getD_some (by rw [h.ok.n]; omega)
    have ne : ∀ a : Nat, ((a : Int) != 0) = (a != 0) := fun a => by cases e : (a != 0) <;> simp [bne] at e ⊢ <;> omega
    refine ⟨bitP (t : Int), k.y &&& bitP (t : Int) != 0, k.o &&& bitP (t : Int) != 0, k.ws.getD t 0, fun w2 => bit_any w2 _ ⟨by omega, by omega⟩, kk.y, kk.o, kk.w hx, bits_and_u64_nat _ _ h.ok.y (bitP_lt _), bits_and_u64_nat _ _ h.ok.o (bitP_lt _), ne _, ne _,
      Option.isSome_iff_exists.1 (hs.thr _ (by omega)).1, (hs.thr _ (by omega)).2, Option.isSome_iff_exists.1 (hs.thr _ (by omega)).1, (hs.thr _ (by omega)).2, Option.isSome_iff_exists.1 (hs.thr _ (by omega)).1, (hs.thr _ (by omega)).2, fun z gz => ?_⟩
    exact (hs.step ht).gg gz
  clear h
  replace hbl := hide hbl
  go_enter Tryd.func24, Tryd.ntmps24
  go_wp2_with fail
  go_loopw [11] (fun i wr => ∃ t : Nat, t ≤ n ∧ i = .int .i64 t ∧ Hid (StI w n t (sttP k) wr)) (fun i _ => n - (intOf i).toNat)
  case atStart => exact ⟨0, Nat.zero_le _, rfl, ST⟩
  case round =>
    obtain ⟨t, ht, rfl, HW⟩ := hrel
    clear ST
    by_cases hlt : t < n
    · have y0 : ∃ y9, y9 = wr.drew := ⟨_, rfl⟩
      obtain ⟨y9, hy9⟩ := y0
      have gy : G wr y9 := by rw [hy9]; exact (G.refl wr).drew
      obtain ⟨bt, y, o, x, CB, cy, co, cw, ey, eo, dy, d2, ⟨u0, h0⟩, f0, ⟨u1, h1⟩, f1, ⟨u2, h2⟩, f2, NX⟩ := unhide RD t y9 hlt ((unhide HW).gg gy)
      replace CB := hide CB
      replace NX := hide NX
      generalize k.y &&& bt = YY at ey dy
      generalize k.o &&& bt = OO at eo d2
      have htI : (t : Int) < (n : Int) := by omega
      have ht64 : (t : Int) < 64 := by omega
      have ht0 : (0 : Int) ≤ (t : Int) := by omega
      have hne : Hid (b ≠ w.heap.size) := hide (by have := unhide hbl; omega)
      clear HW RD FI mk
      have NY := NX
      have KS : Hid ((((y9.setCell ⟨w.heap.size, t * 3, none⟩ (.bool y)).setCell ⟨w.heap.size, t * 3 + 1, none⟩ (.bool o)).setCell ⟨w.heap.size, t * 3 + 2, none⟩ (.int .u64 (x : Int))).cell? ⟨b, 0, none⟩ = some (.int .u64 (k.y : Int)) ∧ (((y9.setCell ⟨w.heap.size, t * 3, none⟩ (.bool y)).setCell ⟨w.heap.size, t * 3 + 1, none⟩ (.bool o)).setCell ⟨w.heap.size, t * 3 + 2, none⟩ (.int .u64 (x : Int))).cell? ⟨b, 1, none⟩ = some (.int .u64 (k.o : Int)) ∧ (((y9.setCell ⟨w.heap.size, t * 3, none⟩ (.bool y)).setCell ⟨w.heap.size, t * 3 + 1, none⟩ (.bool o)).setCell ⟨w.heap.size, t * 3 + 2, none⟩ (.int .u64 (x : Int))).cell? ⟨b, 2 + t, none⟩ = some (.int .u64 (x : Int))) := hide (by
        refine ⟨?_, ?_, ?_⟩ <;> rw [cell_other _ (Or.inl (unhide hne)), cell_other _ (Or.inl (unhide hne)), cell_other _ (Or.inl (unhide hne))]
        · exact cy
        · exact co
        · exact cw)
      go_wp2_with fail
      refine wp_region_noPanic ?_
      refine wp_region_held_drew (S := fun x9 => x9.cell? ⟨b, 0, none⟩ = some (.int .u64 (k.y : Int)) ∧ x9.cell? ⟨b, 1, none⟩ = some (.int .u64 (k.o : Int)) ∧ x9.cell? ⟨b, 2 + t, none⟩ = some (.int .u64 (x : Int))) (by kernel_rfl) (by rw [← hy9]; exact ⟨cy, co, cw⟩) (fun hHeld => ?_)
      rw [← hy9] at hHeld ⊢
      clear hy9 gy NX cy co cw
      refine wpAnyH_take (i := 0) (v := .slice (some ⟨w.heap.size, 0, none⟩) n n) rfl (by kernel_rfl) (by kernel_rfl) (by kernel_rfl) (fun _ _ _ h => h) (Or.inl ⟨by rfl, fun w hSw => by obtain ⟨t0, t1, t2⟩ := hSw; go_simp⟩) (by assumption) ?_
      try simp only [Act.put, List.getElem_toArray, List.getElem_cons_zero, List.setIfInBounds_toArray, List.set_cons_zero, List.set_cons_succ]
      refine wpAnyH_take (i := 1) (v := .int .i64 (t : Int)) rfl (by kernel_rfl) (by kernel_rfl) (by kernel_rfl) (fun _ _ _ h => h) (Or.inl ⟨by rfl, fun w hSw => by obtain ⟨t0, t1, t2⟩ := hSw; go_simp⟩) (by assumption) ?_
      try simp only [Act.put, List.getElem_toArray, List.getElem_cons_succ, List.getElem_cons_zero, List.setIfInBounds_toArray, List.set_cons_zero, List.set_cons_succ]
      refine wpAnyH_take (i := 2) (v := .pointer (some ⟨b, 0, none⟩)) rfl (by kernel_rfl) (by kernel_rfl) (by kernel_rfl) (fun _ _ _ h => h) (Or.inl ⟨by rfl, fun w hSw => by obtain ⟨t0, t1, t2⟩ := hSw; go_simp⟩) (by assumption) ?_
      try simp only [Act.put, List.getElem_toArray, List.getElem_cons_succ, List.getElem_cons_zero, List.setIfInBounds_toArray, List.set_cons_zero, List.set_cons_succ]
      refine wpAnyH_take (i := 3) (v := .pointer (some ⟨b, 0, none⟩)) rfl (by kernel_rfl) (by kernel_rfl) (by kernel_rfl) (fun _ _ _ h => h) (Or.inl ⟨by rfl, fun w hSw => by obtain ⟨t0, t1, t2⟩ := hSw; go_simp⟩) (by assumption) ?_
      try simp only [Act.put, List.getElem_toArray, List.getElem_cons_succ, List.getElem_cons_zero, List.setIfInBounds_toArray, List.set_cons_zero, List.set_cons_succ]
      refine wpAnyH_take (i := 4) (v := .pointer (some ⟨b, 0, none⟩)) rfl (by kernel_rfl) (by kernel_rfl) (by kernel_rfl) (fun _ _ _ h => h) (Or.inl ⟨by rfl, fun w hSw => by obtain ⟨t0, t1, t2⟩ := hSw; go_simp⟩) (by assumption) ?_
      try simp only [Act.put, List.getElem_toArray, List.getElem_cons_succ, List.getElem_cons_zero, List.setIfInBounds_toArray, List.set_cons_zero, List.set_cons_succ]
      refine wpAnyH_take (i := 5) (v := .int .u64 (k.y : Int)) rfl (by kernel_rfl) (by kernel_rfl) (by kernel_rfl) (fun _ _ _ h => h) (Or.inl ⟨by rfl, fun w hSw => by obtain ⟨t0, t1, t2⟩ := hSw; go_simp⟩) (by assumption) ?_
      try simp only [Act.put, List.getElem_toArray, List.getElem_cons_succ, List.getElem_cons_zero, List.setIfInBounds_toArray, List.set_cons_zero, List.set_cons_succ]
      refine wpAnyH_take (i := 6) (v := .int .i64 (t : Int)) rfl (by kernel_rfl) (by kernel_rfl) (by kernel_rfl) (fun _ _ _ h => h) (Or.inl ⟨by rfl, fun w hSw => by obtain ⟨t0, t1, t2⟩ := hSw; go_simp⟩) (by assumption) ?_
      try simp only [Act.put, List.getElem_toArray, List.getElem_cons_succ, List.getElem_cons_zero, List.setIfInBounds_toArray, List.set_cons_zero, List.set_cons_succ]
      refine wpAnyH_take (i := 10) (v := .pointer (some ⟨b, 0, none⟩)) rfl (by kernel_rfl) (by kernel_rfl) (by kernel_rfl) (fun _ _ _ h => h) (Or.inl ⟨by rfl, fun w hSw => by obtain ⟨t0, t1, t2⟩ := hSw; go_simp⟩) (by assumption) ?_
      try simp only [Act.put, List.getElem_toArray, List.getElem_cons_succ, List.getElem_cons_zero, List.setIfInBounds_toArray, List.set_cons_zero, List.set_cons_succ]
      refine wpAnyH_take (i := 11) (v := .pointer (some ⟨b, 0, none⟩)) rfl (by kernel_rfl) (by kernel_rfl) (by kernel_rfl) (fun _ _ _ h => h) (Or.inl ⟨by rfl, fun w hSw => by obtain ⟨t0, t1, t2⟩ := hSw; go_simp⟩) (by assumption) ?_
      try simp only [Act.put, List.getElem_toArray, List.getElem_cons_succ, List.getElem_cons_zero, List.setIfInBounds_toArray, List.set_cons_zero, List.set_cons_succ]
      refine wpAnyH_take (i := 12) (v := .pointer (some ⟨b, 1, none⟩)) rfl (by kernel_rfl) (by kernel_rfl) (by kernel_rfl) (fun _ _ _ h => h) (Or.inl ⟨by rfl, fun w hSw => by obtain ⟨t0, t1, t2⟩ := hSw; go_simp⟩) (by assumption) ?_
      try simp only [Act.put, List.getElem_toArray, List.getElem_cons_succ, List.getElem_cons_zero, List.setIfInBounds_toArray, List.set_cons_zero, List.set_cons_succ]
      refine wpAnyH_take (i := 13) (v := .int .u64 (k.o : Int)) rfl (by kernel_rfl) (by kernel_rfl) (by kernel_rfl) (fun _ _ _ h => h) (Or.inl ⟨by rfl, fun w hSw => by obtain ⟨t0, t1, t2⟩ := hSw; go_simp⟩) (by assumption) ?_
      try simp only [Act.put, List.getElem_toArray, List.getElem_cons_succ, List.getElem_cons_zero, List.setIfInBounds_toArray, List.set_cons_zero, List.set_cons_succ]
      refine wpAnyH_take (i := 14) (v := .int .i64 (t : Int)) rfl (by kernel_rfl) (by kernel_rfl) (by kernel_rfl) (fun _ _ _ h => h) (Or.inl ⟨by rfl, fun w hSw => by obtain ⟨t0, t1, t2⟩ := hSw; go_simp⟩) (by assumption) ?_
      try simp only [Act.put, List.getElem_toArray, List.getElem_cons_succ, List.getElem_cons_zero, List.setIfInBounds_toArray, List.set_cons_zero, List.set_cons_succ]
      refine wpAnyH_take (i := 18) (v := .pointer (some ⟨b, 0, none⟩)) rfl (by kernel_rfl) (by kernel_rfl) (by kernel_rfl) (fun _ _ _ h => h) (Or.inl ⟨by rfl, fun w hSw => by obtain ⟨t0, t1, t2⟩ := hSw; go_simp⟩) (by assumption) ?_
      try simp only [Act.put, List.getElem_toArray, List.getElem_cons_succ, List.getElem_cons_zero, List.setIfInBounds_toArray, List.set_cons_zero, List.set_cons_succ]
      refine wpAnyH_take (i := 19) (v := .int .i64 (t : Int)) rfl (by kernel_rfl) (by kernel_rfl) (by kernel_rfl) (fun _ _ _ h => h) (Or.inl ⟨by rfl, fun w hSw => by obtain ⟨t0, t1, t2⟩ := hSw; go_simp⟩) (by assumption) ?_
      try simp only [Act.put, List.getElem_toArray, List.getElem_cons_succ, List.getElem_cons_zero, List.setIfInBounds_toArray, List.set_cons_zero, List.set_cons_succ]
      refine wpAnyH_take (i := 20) (v := .pointer (some ⟨b, 0, none⟩)) rfl (by kernel_rfl) (by kernel_rfl) (by kernel_rfl) (fun _ _ _ h => h) (Or.inl ⟨by rfl, fun w hSw => by obtain ⟨t0, t1, t2⟩ := hSw; go_simp⟩) (by assumption) ?_
      try simp only [Act.put, List.getElem_toArray, List.getElem_cons_succ, List.getElem_cons_zero, List.setIfInBounds_toArray, List.set_cons_zero, List.set_cons_succ]
      refine wpAnyH_take (i := 21) (v := .pointer (some ⟨b, 2, none⟩)) rfl (by kernel_rfl) (by kernel_rfl) (by kernel_rfl) (fun _ _ _ h => h) (Or.inl ⟨by rfl, fun w hSw => by obtain ⟨t0, t1, t2⟩ := hSw; go_simp⟩) (by assumption) ?_
      try simp only [Act.put, List.getElem_toArray, List.getElem_cons_succ, List.getElem_cons_zero, List.setIfInBounds_toArray, List.set_cons_zero, List.set_cons_succ]
      refine wpAnyH_take (i := 22) (v := .pointer (some ⟨b, 2 + t, none⟩)) rfl (by kernel_rfl) (by kernel_rfl) (by kernel_rfl) (fun _ _ _ h => h) (Or.inl ⟨by rfl, fun w hSw => by obtain ⟨t0, t1, t2⟩ := hSw; go_simp⟩) (by assumption) ?_
      try simp only [Act.put, List.getElem_toArray, List.getElem_cons_succ, List.getElem_cons_zero, List.setIfInBounds_toArray, List.set_cons_zero, List.set_cons_succ]
      refine wpAnyH_take (i := 23) (v := .int .u64 (x : Int)) rfl (by kernel_rfl) (by kernel_rfl) (by kernel_rfl) (fun _ _ _ h => h) (Or.inl ⟨by rfl, fun w hSw => by obtain ⟨t0, t1, t2⟩ := hSw; go_simp⟩) (by assumption) ?_
      try simp only [Act.put, List.getElem_toArray, List.getElem_cons_succ, List.getElem_cons_zero, List.setIfInBounds_toArray, List.set_cons_zero, List.set_cons_succ]
      refine wpAnyH_ready (rs := [7]) (by kernel_rfl) (by simp) ?_
      refine AllReadyH.cons rfl (fun K hK => ?_) AllReadyH.nil
      go_simp
      refine (unhide CB _).mono ?_
      rintro e w3 ⟨rfl, hw3⟩
      subst hw3
      go_wp2_with fail
      refine hK.out _ _ hHeld (fun hHeld => ?_)
      clear hK K
      try simp only [Act.put, List.getElem_toArray, List.getElem_cons_succ, List.getElem_cons_zero, List.setIfInBounds_toArray, List.set_cons_zero, List.set_cons_succ]
      refine wpAnyH_take (i := 8) (v := .int .u64 (YY : Int)) rfl (by kernel_rfl) (by kernel_rfl) (by kernel_rfl) (fun _ _ _ h => h) (Or.inl ⟨by rfl, fun w hSw => by obtain ⟨t0, t1, t2⟩ := hSw; go_simp⟩) (by assumption) ?_
      try simp only [Act.put, List.getElem_toArray, List.getElem_cons_succ, List.getElem_cons_zero, List.setIfInBounds_toArray, List.set_cons_zero, List.set_cons_succ]
      refine wpAnyH_take (i := 9) (v := .bool y) rfl (by kernel_rfl) (by kernel_rfl) (by kernel_rfl) (fun _ _ _ h => h) (Or.inl ⟨by rfl, fun w hSw => by obtain ⟨t0, t1, t2⟩ := hSw; go_simp⟩) (by assumption) ?_
      try simp only [Act.put, List.getElem_toArray, List.getElem_cons_succ, List.getElem_cons_zero, List.setIfInBounds_toArray, List.set_cons_zero, List.set_cons_succ]
      refine wpAnyH_ready (rs := [15]) (by kernel_rfl) (by simp) ?_
      refine AllReadyH.cons rfl (fun K hK => ?_) AllReadyH.nil
      go_simp
      refine (unhide CB _).mono ?_
      rintro e w3 ⟨rfl, hw3⟩
      subst hw3
      go_wp2_with fail
      refine hK.out _ _ hHeld (fun hHeld => ?_)
      clear hK K
      try simp only [Act.put, List.getElem_toArray, List.getElem_cons_succ, List.getElem_cons_zero, List.setIfInBounds_toArray, List.set_cons_zero, List.set_cons_succ]
      refine wpAnyH_take (i := 16) (v := .int .u64 (OO : Int)) rfl (by kernel_rfl) (by kernel_rfl) (by kernel_rfl) (fun _ _ _ h => h) (Or.inl ⟨by rfl, fun w hSw => by obtain ⟨t0, t1, t2⟩ := hSw; go_simp⟩) (by assumption) ?_
      try simp only [Act.put, List.getElem_toArray, List.getElem_cons_succ, List.getElem_cons_zero, List.setIfInBounds_toArray, List.set_cons_zero, List.set_cons_succ]
      refine wpAnyH_take (i := 17) (v := .bool o) rfl (by kernel_rfl) (by kernel_rfl) (by kernel_rfl) (fun _ _ _ h => h) (Or.inl ⟨by rfl, fun w hSw => by obtain ⟨t0, t1, t2⟩ := hSw; go_simp⟩) (by assumption) ?_
      try simp only [Act.put, List.getElem_toArray, List.getElem_cons_succ, List.getElem_cons_zero, List.setIfInBounds_toArray, List.set_cons_zero, List.set_cons_succ]
      refine wpAnyH_take (i := 24) (v := .agg #[.bool y, .bool o, .int .u64 (x : Int)]) rfl (by kernel_rfl) (by kernel_rfl) (by kernel_rfl) (fun _ _ _ h => h) (Or.inl ⟨by rfl, fun w hSw => by obtain ⟨t0, t1, t2⟩ := hSw; go_simp⟩) (by assumption) ?_
      try simp only [Act.put, List.getElem_toArray, List.getElem_cons_succ, List.getElem_cons_zero, List.setIfInBounds_toArray, List.set_cons_zero, List.set_cons_succ]
      refine wpAnyH_take (i := 25) (v := .pointer (some ⟨w.heap.size, t * 3, none⟩)) rfl (by kernel_rfl) (by kernel_rfl) (by kernel_rfl) (fun _ _ _ h => h) (Or.inl ⟨by rfl, fun w hSw => by obtain ⟨t0, t1, t2⟩ := hSw; go_simp⟩) (by assumption) ?_
      try simp only [Act.put, List.getElem_toArray, List.getElem_cons_succ, List.getElem_cons_zero, List.setIfInBounds_toArray, List.set_cons_zero, List.set_cons_succ]
      refine wpAnyH_ready (rs := [26]) (by kernel_rfl) (by simp) ?_
      refine AllReadyH.cons rfl (fun K hK => ?_) AllReadyH.nil
      go_simp
      refine hK.out _ _ (unhide KS) (fun hHeld2 => ?_)
      clear hK K
      try simp only [Act.put, List.getElem_toArray, List.getElem_cons_succ, List.getElem_cons_zero, List.setIfInBounds_toArray, List.set_cons_zero, List.set_cons_succ]
      refine wpAnyH_done (by kernel_rfl) (NoPanic.normal ?_) _
      clear hHeld hHeld2 h0 h1 h2 f0 f1 f2 KS CB
      go_wp2_with fail
      go_roundw
      case rel => exact ⟨t + 1, hlt, by go_num, hide (unhide NY _ (G.refl _))⟩
      case measure =>
        show n - ((t : Int) + 1).toNat < n - (t : Int).toNat
        omega
    · obtain rfl : t = n := Nat.le_antisymm ht (Nat.le_of_not_lt hlt)
      have K := hide (unhide FI wr (unhide HW))
      have hlI : ¬ (t : Int) < (t : Int) := Int.lt_irrefl _
      clear HW RD FI mk
      go_wp2_with fail
      refine bodyPost_ret (by simp [results, Tryd.results24, go_sem]; try rfl) rfl ?_
      exact unhide K
end Go.Proofs.YtiangegoglfpeaaDoor

/- Package fresh: the tree of the cases is made. -/
namespace Go.Proofs.YtiangegoglfpeaaDoor
set_option maxRecDepth 100000
open Go.RowKit Go.Maps Go.ChangeShapes Go.WideShapes Go.ChangeAt Go.Deep

/-- The slots that each node's cases of a kind name: the leaves, then from the last inner node down. -/
def leafP (kd : Int) (l : List Ca) (t : Nat) : List Nat := List.replicate l.length 0 ++ (l.mapIdx fun i c => if i < t ∧ c.k = kd then bitP c.v else 0)
def upP : Nat → List Nat → List Nat
  | 0, s => s
  | n + 1, s => if n = 0 then s else upP n (s.set n (s.getD (2 * n) 0 ||| s.getD (2 * n + 1) 0))
def nodP (kd : Int) (l : List Ca) : List Nat := upP l.length (leafP kd l l.length)
theorem leaf_len (kd : Int) (l : List Ca) (t : Nat) : (leafP kd l t).length = 2 * l.length := by simp [leafP]; omega
theorem up_len : ∀ (n : Nat) (s : List Nat), (upP n s).length = s.length
  | 0, _ => rfl
  | n + 1, s => by
    unfold upP
    split
    · rfl
    · rw [up_len n]; simp
theorem up_bd : ∀ (n : Nat) (s : List Nat), (∀ x ∈ s, x < 18446744073709551616) → ∀ x ∈ upP n s, x < 18446744073709551616
  | 0, _, h => h
  | n + 1, s, h => by
    unfold upP
    split
    · exact h
    · refine up_bd n _ (fun x hx => ?_)
      rcases List.mem_or_eq_of_mem_set hx with hx | rfl
      · exact h x hx
      · have gd : ∀ i, s.getD i 0 < 18446744073709551616 := fun i => by
          rw [List.getD_eq_getElem?_getD]
          cases e : s[i]? with
          | none => decide
          | some z => exact h z (List.mem_of_getElem? e)
        exact or_lt (gd _) (gd _)
theorem leaf_bd (kd : Int) (l : List Ca) (t : Nat) : ∀ x ∈ leafP kd l t, x < 18446744073709551616 := by
  intro x hx
  rcases List.mem_append.1 hx with hx | hx
  · have := List.eq_of_mem_replicate hx; subst this; decide
  · obtain ⟨i, hi⟩ := List.getElem?_of_mem hx
    rw [List.getElem?_mapIdx] at hi
    obtain ⟨c, _, e⟩ := Option.map_eq_some_iff.1 hi
    subst e
    split
    · exact bitP_lt _
    · decide
theorem nod_bd (kd : Int) (l : List Ca) : ∀ x ∈ nodP kd l, x < 18446744073709551616 := up_bd _ _ (leaf_bd kd l l.length)
theorem nod_len (kd : Int) (l : List Ca) : (nodP kd l).length = 2 * l.length := (up_len _ _).trans (leaf_len kd l l.length)
end Go.Proofs.YtiangegoglfpeaaDoor

/- Package fresh: the tree of the cases is made: its memory. -/
namespace Go.Proofs.YtiangegoglfpeaaDoor
set_option maxRecDepth 100000
open Go.RowKit Go.Maps Go.ChangeShapes Go.WideShapes Go.ChangeAt Go.Deep

theorem mk_u64s (n : Nat) (hn : n ≤ 10000000) (w : World) : (Instr.makeSlice 31 (.int .i64 (n : Int)) (.int .i64 (n : Int))).run Tryd.prog w = .ok (.slice (some ⟨w.heap.size, 0, none⟩) n n) (w.alloc (.cells (madeCells #[.int .u64 0] n) 57)) := by
  obtain ⟨i, hi, hz, hs, hb⟩ := info_parts info_uint64
  have := run_make (P := Tryd.prog) w 31 57 i (.int .u64 0) Tryd.underlying31 hi hz .i64 .i64 (n : Int) (n : Int) (by omega) (by omega) (by rw [hb]; omega) (by omega)
  rw [this, hs, Int.toNat_natCast, Nat.mul_one]
  rfl
/-- The tree in the making: its box tb, the rows s and r. -/
structure TI (w : World) (n : Nat) (ao : Option Addr) (ac tb s r : Nat) (wr : World) (S R : List Nat) : Prop where
  g : G w wr
  lt : w.heap.size ≤ tb ∧ w.heap.size ≤ s ∧ w.heap.size ≤ r
  lu : tb < wr.heap.size ∧ s < wr.heap.size ∧ r < wr.heap.size
  ne : tb ≠ s ∧ tb ≠ r ∧ s ≠ r
  c0 : wr.cell? ⟨tb, 0, none⟩ = some (.slice ao n ac)
  c1 : wr.cell? ⟨tb, 1, none⟩ = some (.slice (some ⟨s, 0, none⟩) (2 * n) (2 * n))
  c2 : wr.cell? ⟨tb, 2, none⟩ = some (.slice (some ⟨r, 0, none⟩) (2 * n) (2 * n))
  ls : S.length = 2 * n
  lr : R.length = 2 * n
  rs : ∀ i, i < 2 * n → wr.cell? ⟨s, i, none⟩ = some (.int .u64 ((S.getD i 0 : Nat) : Int)) ∧ wr.frozen? ⟨s, i, none⟩ = false
  rr : ∀ i, i < 2 * n → wr.cell? ⟨r, i, none⟩ = some (.int .u64 ((R.getD i 0 : Nat) : Int)) ∧ wr.frozen? ⟨r, i, none⟩ = false
theorem made_zero (w : World) (b n : Nat) (h : w.heap[b]? = some (.cells (madeCells #[.int .u64 0] n) 57 (0, 0))) : ∀ i, i < n → w.cell? ⟨b, i, none⟩ = some (.int .u64 (((List.replicate n 0).getD i 0 : Nat) : Int)) ∧ w.frozen? ⟨b, i, none⟩ = false := fun i hi => by
  refine ⟨?_, ?_⟩
  · rw [cell_of_row _ _ _ _ _ _ h]
    have e : (List.replicate n 0).getD i 0 = (0 : Nat) := by rw [List.getD_eq_getElem?_getD, List.getElem?_replicate]; simp [hi]
    rw [e]
    have hs : i < (madeCells #[.int .u64 0] n).size := by rw [size_madeCells]; omega
    rw [Array.getElem?_eq_getElem hs]
    simp [madeCells, Nat.mod_one]
  · unfold World.frozen?
    rw [show w.heap[(⟨b, i, none⟩ : Addr).block]? = _ from h]
    simp
theorem ti_mk {w z : World} {n ac tb s r : Nat} {ao : Option Addr} (g : G w z) (lt : w.heap.size ≤ tb ∧ w.heap.size ≤ s ∧ w.heap.size ≤ r) (ne : tb ≠ s ∧ tb ≠ r ∧ s ≠ r)
    (hb : z.heap[tb]? = some (.cells #[.slice ao n ac, .slice (some ⟨s, 0, none⟩) (2 * n) (2 * n), .slice (some ⟨r, 0, none⟩) (2 * n) (2 * n)] 96 (0, 0)))
    (hs : z.heap[s]? = some (.cells (madeCells #[.int .u64 0] (2 * n)) 57 (0, 0))) (hr : z.heap[r]? = some (.cells (madeCells #[.int .u64 0] (2 * n)) 57 (0, 0))) : TI w n ao ac tb s r z (List.replicate (2 * n) 0) (List.replicate (2 * n) 0) := by
  have lu : ∀ b o, z.heap[b]? = some o → b < z.heap.size := fun b o h => by
    rcases Nat.lt_or_ge b z.heap.size with hh | hh
    · exact hh
    · rw [Array.getElem?_eq_none hh] at h; cases h
  exact ⟨g, lt, ⟨lu _ _ hb, lu _ _ hs, lu _ _ hr⟩, ne, by rw [cell_of_row _ _ _ _ _ _ hb]; rfl, by rw [cell_of_row _ _ _ _ _ _ hb]; rfl, by rw [cell_of_row _ _ _ _ _ _ hb]; rfl, by simp, by simp, made_zero z s _ hs, made_zero z r _ hr⟩
theorem TI.gg {w : World} {n ac tb s r : Nat} {ao : Option Addr} {wr z : World} {S R : List Nat} (h : TI w n ao ac tb s r wr S R) (gz : G wr z) : TI w n ao ac tb s r z S R :=
  ⟨h.g.trans gz, h.lt, ⟨Nat.lt_of_lt_of_le h.lu.1 gz.size, Nat.lt_of_lt_of_le h.lu.2.1 gz.size, Nat.lt_of_lt_of_le h.lu.2.2 gz.size⟩, h.ne, gz.cell h.c0, gz.cell h.c1, gz.cell h.c2, h.ls, h.lr, fun i hi => ⟨gz.cell (h.rs i hi).1, by rw [fro_of_block (x := ⟨s, i, none⟩) (gz.block s h.lu.2.1)]; exact (h.rs i hi).2⟩, fun i hi => ⟨gz.cell (h.rr i hi).1, by rw [fro_of_block (x := ⟨r, i, none⟩) (gz.block r h.lu.2.2)]; exact (h.rr i hi).2⟩⟩
theorem getD_setN (l : List Nat) (i j x : Nat) (hi : i < l.length) : (l.set i x).getD j 0 = if i = j then x else l.getD j 0 := by
  rw [List.getD_eq_getElem?_getD, List.getD_eq_getElem?_getD, List.getElem?_set]
  by_cases e : i = j
  · subst e; simp [hi]
  · simp [e]
theorem TI.setS {w : World} {n ac tb s r : Nat} {ao : Option Addr} {wr : World} {S R : List Nat} (h : TI w n ao ac tb s r wr S R) (i x : Nat) (hi : i < 2 * n) : TI w n ao ac tb s r (wr.setCell ⟨s, i, none⟩ (.int .u64 (x : Int))) (S.set i x) R := by
  refine ⟨G.set h.g _ _ _ h.lt.2.1, h.lt, by rw [World.size_setCell]; exact h.lu, h.ne, ?_, ?_, ?_, by simp [h.ls], h.lr, fun j hj => ⟨?_, by rw [World.frozen?_setCell]; exact (h.rs j hj).2⟩, fun j hj => ⟨?_, by rw [World.frozen?_setCell]; exact (h.rr j hj).2⟩⟩
  · rw [cell_other _ (Or.inl h.ne.1)]; exact h.c0
  · rw [cell_other _ (Or.inl h.ne.1)]; exact h.c1
  · rw [cell_other _ (Or.inl h.ne.1)]; exact h.c2
  · rw [getD_setN _ _ _ _ (by rw [h.ls]; exact hi)]
    by_cases e : i = j
    · subst e; rw [if_pos rfl]; exact cell_same _ (h.rs i hi).1
    · rw [if_neg e, cell_other _ (Or.inr (fun e2 => e e2.symm))]; exact (h.rs j hj).1
  · rw [cell_other _ (Or.inl (fun e => h.ne.2.2 e.symm))]; exact (h.rr j hj).1
theorem TI.setR {w : World} {n ac tb s r : Nat} {ao : Option Addr} {wr : World} {S R : List Nat} (h : TI w n ao ac tb s r wr S R) (i x : Nat) (hi : i < 2 * n) : TI w n ao ac tb s r (wr.setCell ⟨r, i, none⟩ (.int .u64 (x : Int))) S (R.set i x) := by
  refine ⟨G.set h.g _ _ _ h.lt.2.2, h.lt, by rw [World.size_setCell]; exact h.lu, h.ne, ?_, ?_, ?_, h.ls, by simp [h.lr], fun j hj => ⟨?_, by rw [World.frozen?_setCell]; exact (h.rs j hj).2⟩, fun j hj => ⟨?_, by rw [World.frozen?_setCell]; exact (h.rr j hj).2⟩⟩
  · rw [cell_other _ (Or.inl h.ne.2.1)]; exact h.c0
  · rw [cell_other _ (Or.inl h.ne.2.1)]; exact h.c1
  · rw [cell_other _ (Or.inl h.ne.2.1)]; exact h.c2
  · rw [cell_other _ (Or.inl h.ne.2.2)]; exact (h.rs j hj).1
  · rw [getD_setN _ _ _ _ (by rw [h.lr]; exact hi)]
    by_cases e : i = j
    · subst e; rw [if_pos rfl]; exact cell_same _ (h.rr i hi).1
    · rw [if_neg e, cell_other _ (Or.inr (fun e2 => e e2.symm))]; exact (h.rr j hj).1
end Go.Proofs.YtiangegoglfpeaaDoor

/- Package fresh: the tree of the cases is made. -/
namespace Go.Proofs.YtiangegoglfpeaaDoor
set_option maxRecDepth 100000
open Go.RowKit Go.Maps Go.ChangeShapes Go.WideShapes Go.ChangeAt Go.Deep

theorem three (W : World) (o1 o2 o3 : Obj) : G W (((W.alloc o1).alloc o2).alloc o3) ∧ (((W.alloc o1).alloc o2).alloc o3).heap[W.heap.size]? = some o1 ∧ (((W.alloc o1).alloc o2).alloc o3).heap[W.heap.size + 1]? = some o2 ∧ (((W.alloc o1).alloc o2).alloc o3).heap[W.heap.size + 1 + 1]? = some o3 := by
  have s1 : (W.alloc o1).heap.size = W.heap.size + 1 := by rw [World.size_alloc]
  have s2 : ((W.alloc o1).alloc o2).heap.size = W.heap.size + 1 + 1 := by rw [World.size_alloc, s1]
  have a1 := heap_alloc_new W o1
  have a2 := heap_alloc_new (W.alloc o1) o2
  have a3 := heap_alloc_new ((W.alloc o1).alloc o2) o3
  rw [s1] at a2
  rw [s2] at a3
  exact ⟨((G.alloc W o1).more o2).more o3, ((((G.refl (W.alloc o1)).more o2).more o3).block _ (by omega)).trans a1, ((G.alloc ((W.alloc o1).alloc o2) o3).block _ (by omega)).trans a2, a3⟩
theorem leaf_zero (kd : Int) (l : List Ca) : leafP kd l 0 = List.replicate (2 * l.length) 0 := by
  unfold leafP
  have : (l.mapIdx fun i c => if i < 0 ∧ c.k = kd then bitP c.v else 0) = List.replicate l.length 0 := by
    apply List.ext_getElem?
    intro i
    rw [List.getElem?_mapIdx, List.getElem?_replicate]
    by_cases h : i < l.length
    · simp [h]
    · simp [h]
  rw [this, List.replicate_append_replicate]
  congr 1
  omega
theorem leaf_step (kd : Int) (l : List Ca) (t : Nat) (c : Ca) (hc : l[t]? = some c) : leafP kd l (t + 1) = if c.k = kd then (leafP kd l t).set (l.length + t) (bitP c.v) else leafP kd l t := by
  have ht := (List.getElem?_eq_some_iff.1 hc).1
  apply List.ext_getElem?
  intro i
  have g : ∀ u, (leafP kd l u)[i]? = if i < l.length then some 0 else (l[i - l.length]?).map fun c => if i - l.length < u ∧ c.k = kd then bitP c.v else 0 := fun u => by
    unfold leafP
    by_cases h : i < l.length
    · rw [if_pos h, List.getElem?_append_left (by simpa using h), List.getElem?_replicate, if_pos h]
    · rw [if_neg h, List.getElem?_append_right (by simp; omega), List.length_replicate, List.getElem?_mapIdx]
  by_cases hk : c.k = kd
  · rw [if_pos hk, List.getElem?_set, g, g]
    by_cases e : l.length + t = i
    · subst e
      rw [if_pos rfl, if_neg (by omega), Nat.add_sub_cancel_left, hc, leaf_len]
      simp [hk]
      omega
    · rw [if_neg e]
      by_cases h : i < l.length
      · rw [if_pos h, if_pos h]
      · rw [if_neg h, if_neg h]
        have : (i - l.length < t + 1) ↔ (i - l.length < t) := by omega
        simp only [this]
  · rw [if_neg hk, g, g]
    by_cases h : i < l.length
    · rw [if_pos h, if_pos h]
    · rw [if_neg h, if_neg h]
      by_cases e : i - l.length = t
      · rw [e, hc]; simp [hk]
      · have : (i - l.length < t + 1) ↔ (i - l.length < t) := by omega
        simp only [this]
theorem dec_tt (L t : Nat) (h : t < L) : L - (intOf (.int .i64 ((t + 1 : Nat) : Int))).toNat < L - (intOf (.int .i64 (t : Int))).toNat := by
  show L - ((t + 1 : Nat) : Int).toNat < L - (t : Int).toNat
  omega
theorem dec_tt2 (L t : Nat) (h : t < L) : L - (intOf (.int .i64 ((t : Int) + 1))).toNat < L - (intOf (.int .i64 (t : Int))).toNat := by
  show L - ((t : Int) + 1).toNat < L - (t : Int).toNat
  omega
theorem up_le (j : Nat) (s : List Nat) (h : j ≤ 1) : upP j s = s := by
  match j, h with
  | 0, _ => rfl
  | 1, _ => rfl
theorem up_succ (m : Nat) (s : List Nat) (h : 0 < m) : upP (m + 1) s = upP m (s.set m (s.getD (2 * m) 0 ||| s.getD (2 * m + 1) 0)) := by
  conv => lhs; unfold upP
  rw [if_neg (by omega)]
end Go.Proofs.YtiangegoglfpeaaDoor

/- Package fresh: caseTreeOf. -/
namespace Go.Proofs.YtiangegoglfpeaaDoor
set_option maxRecDepth 100000
open Go.RowKit Go.Maps Go.ChangeShapes Go.WideShapes Go.ChangeAt Go.Deep

/-- The tree is answered; its two rows lie in new memory. -/
def TreeTo (w : World) (n : Nat) (ao : Option Addr) (ac : Nat) (S R : List Nat) (e : Ending) (w' : World) : Prop := ∃ s r, e = .returned (.agg #[.slice ao n ac, .slice (some ⟨s, 0, none⟩) (2 * n) (2 * n), .slice (some ⟨r, 0, none⟩) (2 * n) (2 * n)]) ∧ RowAt elU w' (some ⟨s, 0, none⟩) (2 * n) (2 * n) S ∧ RowAt elU w' (some ⟨r, 0, none⟩) (2 * n) (2 * n) R ∧ G w w'
theorem TI.row {w : World} {n ac tb s r : Nat} {ao : Option Addr} {wr z : World} {S R : List Nat} (h : TI w n ao ac tb s r wr S R) (hn : n ≤ 1000000) (es : z.heap[s]? = wr.heap[s]?) (er : z.heap[r]? = wr.heap[r]?) (hz : wr.heap.size ≤ z.heap.size) : RowAt elU z (some ⟨s, 0, none⟩) (2 * n) (2 * n) S ∧ RowAt elU z (some ⟨r, 0, none⟩) (2 * n) (2 * n) R := by
  have key : ∀ (b : Nat) (L : List Nat), L.length = 2 * n → b < z.heap.size → (∀ i, i < 2 * n → z.cell? ⟨b, i, none⟩ = some (.int .u64 ((L.getD i 0 : Nat) : Int))) → RowAt elU z (some ⟨b, 0, none⟩) (2 * n) (2 * n) L := fun b L hL hb hc => by
    refine ⟨hL, by unfold maxLen; omega, (fun e => by cases e), Or.inr ⟨b, 0, rfl, hb, fun i a hi => ⟨[.int .u64 (a : Int)], rfl, fun j v hv => ?_⟩⟩⟩
    match j, hv with
    | 0, hv =>
      simp at hv
      subst hv
      have := hc i (by rw [← hL]; exact (List.getElem?_eq_some_iff.1 hi).1)
      rw [List.getD_eq_getElem?_getD, hi] at this
      simpa [elU] using this
    | j + 1, hv => simp at hv
  exact ⟨key s S h.ls (Nat.lt_of_lt_of_le h.lu.2.1 hz) (fun i hi => (World.cell?_of_block (a := ⟨s, i, none⟩) es).trans (h.rs i hi).1), key r R h.lr (Nat.lt_of_lt_of_le h.lu.2.2 hz) (fun i hi => (World.cell?_of_block (a := ⟨r, i, none⟩) er).trans (h.rr i hi).1)⟩
theorem res_tree {fn : Func} {p : Tmp} (h : fn.results = #[.cell p 96]) (tmps : Array Value) (w : World) (b : Nat) (x y z : Value) (hp : tmps.getD p undef = .pointer (some ⟨b, 0, none⟩)) (c0 : w.cell? ⟨b, 0, none⟩ = some x) (c1 : w.cell? ⟨b, 1, none⟩ = some y) (c2 : w.cell? ⟨b, 2, none⟩ = some z) : (results fn tmps).run Tryd.prog w = .ok (.agg #[x, y, z]) w := by
  have hp' : tmps[p]?.getD undef = .pointer (some ⟨b, 0, none⟩) := by simpa using hp
  simp [results, h, hp', asAddr, go_sem, c0, c1, c2]
theorem gd_bd {l : List Nat} (h : ∀ x ∈ l, x < 18446744073709551616) (i : Nat) : l.getD i 0 < 18446744073709551616 := by
  rw [List.getD_eq_getElem?_getD]
  cases e : l[i]? with
  | none => decide
  | some z => exact h z (List.mem_of_getElem? e)
theorem set_bd {l : List Nat} (h : ∀ x ∈ l, x < 18446744073709551616) (i x : Nat) (hx : x < 18446744073709551616) : ∀ y ∈ l.set i x, y < 18446744073709551616 := fun y hy => by
  rcases List.mem_or_eq_of_mem_set hy with hy | rfl
  · exact h y hy
  · exact hx
theorem dec_z (z : Int) (m : Nat) (hz : z = (m : Int)) (y : Int) (hy : y = (m : Int) - 1) : (intOf (.int .i64 y) + 1).toNat < (intOf (.int .i64 z) + 1).toNat := by
  subst hz hy
  show ((m : Int) - 1 + 1).toNat < ((m : Int) + 1).toNat
  omega
set_option maxHeartbeats 1000000 in
theorem caseTreeOf_any (w : World) (ao : Option Addr) (n ac : Nat) (l : List Ca) (hr : RowAt elCa w ao n ac l) (oc : ∀ c ∈ l, oCa c) (hn : n ≤ 1000000) : Calls Tryd.prog 32 #[.slice ao n ac] w (TreeTo w n ao ac (nodP 1 l) (nodP 0 l)) := by
  have hln := hr.1
  have mk := mk_u64s (2 * n) (by omega)
  have hw2 : wrap64 (2 * (n : Int)) = ((2 * n : Nat) : Int) := by unfold wrap64; omega
  have hw3 : IntKind.i64.wrap (2 * (n : Int)) = ((2 * n : Nat) : Int) := by rw [IntKind.wrap_i64]; omega
  have mkA : ∀ x, (Instr.makeSlice 31 (.int .i64 (wrap64 (2 * (n : Int)))) (.int .i64 (wrap64 (2 * (n : Int))))).run Tryd.prog x = .ok (.slice (some ⟨x.heap.size, 0, none⟩) (2 * n) (2 * n)) (x.alloc (.cells (madeCells #[.int .u64 0] (2 * n)) 57)) := fun x => by rw [hw2]; exact mk x
  have mkC : ∀ x, (Instr.makeSlice 31 (.int .i64 (2 * (n : Int))) (.int .i64 (2 * (n : Int)))).run Tryd.prog x = .ok (.slice (some ⟨x.heap.size, 0, none⟩) (2 * n) (2 * n)) (x.alloc (.cells (madeCells #[.int .u64 0] (2 * n)) 57)) := fun x => mk x
  obtain ⟨W, hW⟩ : ∃ W, W = w.alloc (.cells #[.slice none 0 0, .slice none 0 0, .slice none 0 0] 96) := ⟨_, rfl⟩
  have hWs : W.heap.size = w.heap.size + 1 := by rw [hW, World.size_alloc]
  have PRM012 : Hid (∀ z, G (((W.alloc (.cells #[.slice ao n ac, .slice (some ⟨w.heap.size + 1 + 1, 0, none⟩) (2 * n) (2 * n), .slice (some ⟨w.heap.size + 1 + 1 + 1, 0, none⟩) (2 * n) (2 * n)] 96)).alloc (.cells (madeCells #[.int .u64 0] (2 * n)) 57)).alloc (.cells (madeCells #[.int .u64 0] (2 * n)) 57)) z → TI W n ao ac (w.heap.size + 1) (w.heap.size + 1 + 1) (w.heap.size + 1 + 1 + 1) z (List.replicate (2 * n) 0) (List.replicate (2 * n) 0)) := hide fun z gz => by
    obtain ⟨g, h0, h1, h2⟩ := three W (.cells #[.slice ao n ac, .slice (some ⟨w.heap.size + 1 + 1, 0, none⟩) (2 * n) (2 * n), .slice (some ⟨w.heap.size + 1 + 1 + 1, 0, none⟩) (2 * n) (2 * n)] 96) (.cells (madeCells #[.int .u64 0] (2 * n)) 57) (.cells (madeCells #[.int .u64 0] (2 * n)) 57)
    rw [hWs] at h0 h1 h2
    exact (ti_mk g ⟨by rw [hWs]; omega, by rw [hWs]; omega, by rw [hWs]; omega⟩ ⟨by omega, by omega, by omega⟩ h0 h1 h2).gg gz
  have PRM021 : Hid (∀ z, G (((W.alloc (.cells #[.slice ao n ac, .slice (some ⟨w.heap.size + 1 + 1 + 1, 0, none⟩) (2 * n) (2 * n), .slice (some ⟨w.heap.size + 1 + 1, 0, none⟩) (2 * n) (2 * n)] 96)).alloc (.cells (madeCells #[.int .u64 0] (2 * n)) 57)).alloc (.cells (madeCells #[.int .u64 0] (2 * n)) 57)) z → TI W n ao ac (w.heap.size + 1) (w.heap.size + 1 + 1 + 1) (w.heap.size + 1 + 1) z (List.replicate (2 * n) 0) (List.replicate (2 * n) 0)) := hide fun z gz => by
    obtain ⟨g, h0, h1, h2⟩ := three W (.cells #[.slice ao n ac, .slice (some ⟨w.heap.size + 1 + 1 + 1, 0, none⟩) (2 * n) (2 * n), .slice (some ⟨w.heap.size + 1 + 1, 0, none⟩) (2 * n) (2 * n)] 96) (.cells (madeCells #[.int .u64 0] (2 * n)) 57) (.cells (madeCells #[.int .u64 0] (2 * n)) 57)
    rw [hWs] at h0 h1 h2
    exact (ti_mk g ⟨by rw [hWs]; omega, by rw [hWs]; omega, by rw [hWs]; omega⟩ ⟨by omega, by omega, by omega⟩ h0 h2 h1).gg gz
  have PRM102 : Hid (∀ z, G (((W.alloc (.cells (madeCells #[.int .u64 0] (2 * n)) 57)).alloc (.cells #[.slice ao n ac, .slice (some ⟨w.heap.size + 1, 0, none⟩) (2 * n) (2 * n), .slice (some ⟨w.heap.size + 1 + 1 + 1, 0, none⟩) (2 * n) (2 * n)] 96)).alloc (.cells (madeCells #[.int .u64 0] (2 * n)) 57)) z → TI W n ao ac (w.heap.size + 1 + 1) (w.heap.size + 1) (w.heap.size + 1 + 1 + 1) z (List.replicate (2 * n) 0) (List.replicate (2 * n) 0)) := hide fun z gz => by
    obtain ⟨g, h0, h1, h2⟩ := three W (.cells (madeCells #[.int .u64 0] (2 * n)) 57) (.cells #[.slice ao n ac, .slice (some ⟨w.heap.size + 1, 0, none⟩) (2 * n) (2 * n), .slice (some ⟨w.heap.size + 1 + 1 + 1, 0, none⟩) (2 * n) (2 * n)] 96) (.cells (madeCells #[.int .u64 0] (2 * n)) 57)
    rw [hWs] at h0 h1 h2
    exact (ti_mk g ⟨by rw [hWs]; omega, by rw [hWs]; omega, by rw [hWs]; omega⟩ ⟨by omega, by omega, by omega⟩ h1 h0 h2).gg gz
  have PRM120 : Hid (∀ z, G (((W.alloc (.cells (madeCells #[.int .u64 0] (2 * n)) 57)).alloc (.cells #[.slice ao n ac, .slice (some ⟨w.heap.size + 1 + 1 + 1, 0, none⟩) (2 * n) (2 * n), .slice (some ⟨w.heap.size + 1, 0, none⟩) (2 * n) (2 * n)] 96)).alloc (.cells (madeCells #[.int .u64 0] (2 * n)) 57)) z → TI W n ao ac (w.heap.size + 1 + 1) (w.heap.size + 1 + 1 + 1) (w.heap.size + 1) z (List.replicate (2 * n) 0) (List.replicate (2 * n) 0)) := hide fun z gz => by
    obtain ⟨g, h0, h1, h2⟩ := three W (.cells (madeCells #[.int .u64 0] (2 * n)) 57) (.cells #[.slice ao n ac, .slice (some ⟨w.heap.size + 1 + 1 + 1, 0, none⟩) (2 * n) (2 * n), .slice (some ⟨w.heap.size + 1, 0, none⟩) (2 * n) (2 * n)] 96) (.cells (madeCells #[.int .u64 0] (2 * n)) 57)
    rw [hWs] at h0 h1 h2
    exact (ti_mk g ⟨by rw [hWs]; omega, by rw [hWs]; omega, by rw [hWs]; omega⟩ ⟨by omega, by omega, by omega⟩ h1 h2 h0).gg gz
  have PRM201 : Hid (∀ z, G (((W.alloc (.cells (madeCells #[.int .u64 0] (2 * n)) 57)).alloc (.cells (madeCells #[.int .u64 0] (2 * n)) 57)).alloc (.cells #[.slice ao n ac, .slice (some ⟨w.heap.size + 1, 0, none⟩) (2 * n) (2 * n), .slice (some ⟨w.heap.size + 1 + 1, 0, none⟩) (2 * n) (2 * n)] 96)) z → TI W n ao ac (w.heap.size + 1 + 1 + 1) (w.heap.size + 1) (w.heap.size + 1 + 1) z (List.replicate (2 * n) 0) (List.replicate (2 * n) 0)) := hide fun z gz => by
    obtain ⟨g, h0, h1, h2⟩ := three W (.cells (madeCells #[.int .u64 0] (2 * n)) 57) (.cells (madeCells #[.int .u64 0] (2 * n)) 57) (.cells #[.slice ao n ac, .slice (some ⟨w.heap.size + 1, 0, none⟩) (2 * n) (2 * n), .slice (some ⟨w.heap.size + 1 + 1, 0, none⟩) (2 * n) (2 * n)] 96)
    rw [hWs] at h0 h1 h2
    exact (ti_mk g ⟨by rw [hWs]; omega, by rw [hWs]; omega, by rw [hWs]; omega⟩ ⟨by omega, by omega, by omega⟩ h2 h0 h1).gg gz
  have PRM210 : Hid (∀ z, G (((W.alloc (.cells (madeCells #[.int .u64 0] (2 * n)) 57)).alloc (.cells (madeCells #[.int .u64 0] (2 * n)) 57)).alloc (.cells #[.slice ao n ac, .slice (some ⟨w.heap.size + 1 + 1, 0, none⟩) (2 * n) (2 * n), .slice (some ⟨w.heap.size + 1, 0, none⟩) (2 * n) (2 * n)] 96)) z → TI W n ao ac (w.heap.size + 1 + 1 + 1) (w.heap.size + 1 + 1) (w.heap.size + 1) z (List.replicate (2 * n) 0) (List.replicate (2 * n) 0)) := hide fun z gz => by
    obtain ⟨g, h0, h1, h2⟩ := three W (.cells (madeCells #[.int .u64 0] (2 * n)) 57) (.cells (madeCells #[.int .u64 0] (2 * n)) 57) (.cells #[.slice ao n ac, .slice (some ⟨w.heap.size + 1 + 1, 0, none⟩) (2 * n) (2 * n), .slice (some ⟨w.heap.size + 1, 0, none⟩) (2 * n) (2 * n)] 96)
    rw [hWs] at h0 h1 h2
    exact (ti_mk g ⟨by rw [hWs]; omega, by rw [hWs]; omega, by rw [hWs]; omega⟩ ⟨by omega, by omega, by omega⟩ h2 h1 h0).gg gz
  have GW : Hid (G w W) := hide (by rw [hW]; exact G.alloc _ _)
  clear hw2 hw3 mk
  replace hr := hide hr
  replace oc := hide oc
  replace hln := hide hln
  replace hWs := hide hWs
  have hnn : Hid (n ≤ 1000000) := hide hn
  clear hn
  go_enter Tryd.func32, Tryd.ntmps32
  go_upto_region 2 with fail
  rw [← hW]
  go_cut [4] (fun v4 wx => ∃ tb s r, v4 = .pointer (some ⟨tb, 0, none⟩) ∧ Hid (TI W n ao ac tb s r wx (List.replicate (2 * n) 0) (List.replicate (2 * n) 0)))
  case first =>
    rw [hW] at *
    go_region
    all_goals
      go_wp2_with fail
      go_meet
      first
        | (exact ⟨w.heap.size + 1, w.heap.size + 1 + 1, w.heap.size + 1 + 1 + 1, rfl, hide (unhide PRM012 _ (by first | exact G.refl _ | exact (G.refl _).drew))⟩)
        | (exact ⟨w.heap.size + 1, w.heap.size + 1 + 1 + 1, w.heap.size + 1 + 1, rfl, hide (unhide PRM021 _ (by first | exact G.refl _ | exact (G.refl _).drew))⟩)
        | (exact ⟨w.heap.size + 1 + 1, w.heap.size + 1, w.heap.size + 1 + 1 + 1, rfl, hide (unhide PRM102 _ (by first | exact G.refl _ | exact (G.refl _).drew))⟩)
        | (exact ⟨w.heap.size + 1 + 1, w.heap.size + 1 + 1 + 1, w.heap.size + 1, rfl, hide (unhide PRM120 _ (by first | exact G.refl _ | exact (G.refl _).drew))⟩)
        | (exact ⟨w.heap.size + 1 + 1 + 1, w.heap.size + 1, w.heap.size + 1 + 1, rfl, hide (unhide PRM201 _ (by first | exact G.refl _ | exact (G.refl _).drew))⟩)
        | (exact ⟨w.heap.size + 1 + 1 + 1, w.heap.size + 1 + 1, w.heap.size + 1, rfl, hide (unhide PRM210 _ (by first | exact G.refl _ | exact (G.refl _).drew))⟩)
  case rest =>
    obtain ⟨tb, s, r, rfl, HT⟩ := hcut
    have J0 : Hid (TI W n ao ac tb s r wc (leafP 1 l 0) (leafP 0 l 0)) := hide (by rw [leaf_zero, leaf_zero, unhide hln]; exact unhide HT)
    have GWW := hide ((unhide HT).g)
    have RD : Hid (∀ (t : Nat) (wr : World), t < n → G W wr → ∃ (b off : Nat) (cs : Ca), ao = some ⟨b, off, none⟩ ∧ l[t]? = some cs ∧ oCa cs ∧ wr.cell? ⟨b, off + t * 4, none⟩ = some (.int .i64 cs.k) ∧ wr.cell? ⟨b, off + t * 4 + 1, none⟩ = some (.int .i64 cs.c) ∧ wr.cell? ⟨b, off + t * 4 + 2, none⟩ = some (.int .i64 cs.v) ∧ wr.cell? ⟨b, off + t * 4 + 3, none⟩ = some (.int .i64 cs.t)) := hide fun t wr ht g => by
      obtain ⟨b, off, a, cc, e, ha, ecs, hcs⟩ := row_get (unhide hr) ht
      have ecs : cc = [.int .i64 a.k, .int .i64 a.c, .int .i64 a.v, .int .i64 a.t] := ecs
      subst ecs
      have g0 : G w wr := (unhide GW).trans g
      exact ⟨b, off, a, e, ha, unhide oc a (List.mem_of_getElem? ha), hcs wr g0 0 _ rfl, hcs wr g0 1 _ rfl, hcs wr g0 2 _ rfl, hcs wr g0 3 _ rfl⟩
    clear HT mkA mkC PRM012 PRM021 PRM102 PRM120 PRM201 PRM210
    go_wp2_with fail
    go_loopw [20] (fun v wr => ∃ t : Nat, t ≤ n ∧ v = .int .i64 t ∧ Hid (TI W n ao ac tb s r wr (leafP 1 l t) (leafP 0 l t))) (fun v _ => n - (intOf v).toNat)
    case atStart => exact ⟨0, Nat.zero_le _, rfl, J0⟩
    case round =>
      obtain ⟨t, ht, rfl, HW⟩ := hrel
      clear J0
      by_cases hlt : t < n
      · obtain ⟨b, off, cs, rfl, hcs, ocs, y0, y1, y2, y3⟩ := unhide RD t wr hlt (unhide HW).g
        have htI : (t : Int) < (n : Int) := by omega
        have ht0 : (0 : Int) ≤ (t : Int) := by omega
        have wt : wrap64 ((t : Int) + 1) = ((t + 1 : Nat) : Int) := by have := unhide hnn; unfold wrap64; omega
        go_upto_region 6 with fail
        obtain ⟨wq, hwq⟩ : ∃ x, x = wr.alloc (.cells #[.int .i64 cs.k, .int .i64 cs.c, .int .i64 cs.v, .int .i64 cs.t] 66) := ⟨_, rfl⟩
        have BX : ∀ (j : Nat) (v : Value), (#[.int .i64 cs.k, .int .i64 cs.c, .int .i64 cs.v, .int .i64 cs.t] : Array Value)[j]? = some v → wq.cell? ⟨wr.heap.size, j, none⟩ = some v := fun j v hv => by
          rw [hwq, cell_of_row _ _ _ _ _ _ (heap_alloc_new wr _)]; exact hv
        have TQ : Hid (TI W n (some ⟨b, off, none⟩) ac tb s r wq (leafP 1 l t) (leafP 0 l t)) := hide ((unhide HW).gg (by rw [hwq]; exact G.alloc _ _))
        rw [← hwq]
        have b0 := BX 0 _ rfl
        have b2 := BX 2 _ rfl
        have hnt : n + t < 2 * n := by omega
        have wnt : wrap64 ((n : Int) + (t : Int)) = ((n + t : Nat) : Int) := by have := unhide hnn; unfold wrap64; omega
        have wnt2 : IntKind.i64.wrap ((n : Int) + (t : Int)) = ((n + t : Nat) : Int) := by have := unhide hnn; rw [IntKind.wrap_i64]; omega
        have hntI : ((n + t : Nat) : Int) < ((2 * n : Nat) : Int) := by omega
        have hnt0 : (0 : Int) ≤ ((n + t : Nat) : Int) := by omega
        clear hwq BX y0 y1 y2 y3
        by_cases hk : cs.k = 1
        · skip
          have e1 : leafP 1 l (t + 1) = (leafP 1 l t).set (n + t) (bitP cs.v) := by rw [leaf_step 1 l t cs hcs, if_pos hk, unhide hln]
          have e0 : leafP 0 l (t + 1) = leafP 0 l t := by rw [leaf_step 0 l t cs hcs, if_neg (by rw [hk]; decide)]
          have NX : Hid (∀ z, G (wq.setCell ⟨s, n + t, none⟩ (.int .u64 ((bitP cs.v : Nat) : Int))) z → TI W n (some ⟨b, off, none⟩) ac tb s r z (leafP 1 l (t + 1)) (leafP 0 l (t + 1))) := hide fun z gz => by
            rw [e1, e0]
            exact ((unhide TQ).setS (n + t) (bitP cs.v) hnt).gg gz
          have d1 := (unhide TQ).c1
          obtain ⟨x1, x2⟩ := (unhide TQ).rs (n + t) hnt
          have CB : Hid (∀ w2 : World, Calls Tryd.prog 19 #[.int .i64 cs.v] w2 fun e w' => e = .returned (.int .u64 (bitP cs.v : Int)) ∧ w' = w2) := hide fun w2 => bit_any w2 cs.v ocs.2.2.1
          rw [hk] at b0
          generalize bitP cs.v = BV at CB NX
          clear e1 e0 TQ HW RD hcs ocs
          go_wp2_with fail
          go_region_with (refine (unhide CB _).mono ?_; rintro e w3 ⟨rfl, rfl⟩)
          all_goals
            go_wp2_with fail
            go_roundw
            case rel => exact ⟨t + 1, hlt, by first | rw [wt] | go_num, hide (by first | exact unhide NX _ (G.refl _) | exact unhide NX _ (G.refl _).drew)⟩
            case measure =>
              first | (rw [wt]; exact dec_tt n t hlt) | exact dec_tt2 n t hlt
        · by_cases hk2 : cs.k = 0
          · replace hk := hk2
            have e1 : leafP 0 l (t + 1) = (leafP 0 l t).set (n + t) (bitP cs.v) := by rw [leaf_step 0 l t cs hcs, if_pos hk, unhide hln]
            have e0 : leafP 1 l (t + 1) = leafP 1 l t := by rw [leaf_step 1 l t cs hcs, if_neg (by rw [hk]; decide)]
            have NX : Hid (∀ z, G (wq.setCell ⟨r, n + t, none⟩ (.int .u64 ((bitP cs.v : Nat) : Int))) z → TI W n (some ⟨b, off, none⟩) ac tb s r z (leafP 1 l (t + 1)) (leafP 0 l (t + 1))) := hide fun z gz => by
              rw [e1, e0]
              exact ((unhide TQ).setR (n + t) (bitP cs.v) hnt).gg gz
            have d1 := (unhide TQ).c2
            obtain ⟨x1, x2⟩ := (unhide TQ).rr (n + t) hnt
            have CB : Hid (∀ w2 : World, Calls Tryd.prog 19 #[.int .i64 cs.v] w2 fun e w' => e = .returned (.int .u64 (bitP cs.v : Int)) ∧ w' = w2) := hide fun w2 => bit_any w2 cs.v ocs.2.2.1
            rw [hk] at b0
            generalize bitP cs.v = BV at CB NX
            clear e1 e0 TQ HW RD hcs ocs
            go_wp2_with fail
            go_region_with (refine (unhide CB _).mono ?_; rintro e w3 ⟨rfl, rfl⟩)
            all_goals
              go_wp2_with fail
              go_roundw
              case rel => exact ⟨t + 1, hlt, by first | rw [wt] | go_num, hide (by first | exact unhide NX _ (G.refl _) | exact unhide NX _ (G.refl _).drew)⟩
              case measure =>
                first | (rw [wt]; exact dec_tt n t hlt) | exact dec_tt2 n t hlt
          · have e1 : leafP 1 l (t + 1) = leafP 1 l t := by rw [leaf_step 1 l t cs hcs, if_neg hk]
            have e0 : leafP 0 l (t + 1) = leafP 0 l t := by rw [leaf_step 0 l t cs hcs, if_neg hk2]
            have NX : Hid (TI W n (some ⟨b, off, none⟩) ac tb s r wq (leafP 1 l (t + 1)) (leafP 0 l (t + 1))) := hide (by rw [e1, e0]; exact unhide TQ)
            have q1 : (cs.k == 1) = false := beq_eq_false_iff_ne.2 hk
            have q2 : (cs.k == 0) = false := beq_eq_false_iff_ne.2 hk2
            clear e1 e0 TQ HW RD hcs ocs
            go_wp2_with fail
            go_roundw
            case rel => exact ⟨t + 1, hlt, by first | rw [wt] | go_num, NX⟩
            case measure =>
              first | (rw [wt]; exact dec_tt n t hlt) | exact dec_tt2 n t hlt
      · obtain rfl : t = n := Nat.le_antisymm ht (Nat.le_of_not_lt hlt)
        have hlI : ¬ (t : Int) < (t : Int) := Int.lt_irrefl _
        have wn : wrap64 ((t : Int) - 1) = (t : Int) - 1 := by have := unhide hnn; unfold wrap64; omega
        have J1 : Hid (TI W t ao ac tb s r wr (leafP 1 l t) (leafP 0 l t) ∧ upP t (leafP 1 l t) = nodP 1 l ∧ upP t (leafP 0 l t) = nodP 0 l ∧ t ≤ t ∧ (∀ x ∈ leafP 1 l t, x < 18446744073709551616) ∧ (∀ x ∈ leafP 0 l t, x < 18446744073709551616)) := hide ⟨unhide HW, by unfold nodP; rw [unhide hln], by unfold nodP; rw [unhide hln], Nat.le_refl _, leaf_bd _ _ _, leaf_bd _ _ _⟩
        clear RD HW hlt ht
        go_wp2_with fail
        go_loopw [7] (fun v7 wx => ∃ (j : Nat) (zz : Int) (S R : List Nat), v7 = .int .i64 zz ∧ zz = (j : Int) - 1 ∧ Hid (TI W t ao ac tb s r wx S R ∧ upP j S = nodP 1 l ∧ upP j R = nodP 0 l ∧ j ≤ t ∧ (∀ x ∈ S, x < 18446744073709551616) ∧ (∀ x ∈ R, x < 18446744073709551616))) (fun v7 _ => (intOf v7 + 1).toNat)
        case atStart => exact ⟨t, _, _, _, rfl, by first | exact wn | rfl, J1⟩
        case round =>
          obtain ⟨j, zz, S, R, rfl, hzz, HW⟩ := hrel
          clear J1 hlI wn
          by_cases hj : 2 ≤ j
          · obtain ⟨m, rfl⟩ : ∃ m, j = m + 1 := ⟨j - 1, by omega⟩
            have ez : zz = (m : Int) := by omega
            subst ez
            obtain ⟨hT, u1, u2, hjt, bS, bR⟩ := unhide HW
            have hm : 0 < m := by omega
            rw [up_succ m _ hm] at u1 u2
            have gS := gd_bd bS
            have gR := gd_bd bR
            have hmt : 2 * m + 1 < 2 * t := by omega
            obtain ⟨a2, ha2⟩ : ∃ a2, a2 = 2 * m := ⟨_, rfl⟩
            obtain ⟨b2, hb2⟩ : ∃ b2, b2 = 2 * m + 1 := ⟨_, rfl⟩
            obtain ⟨tt, htt⟩ : ∃ tt, tt = 2 * t := ⟨_, rfl⟩
            have w1 : wrap64 (2 * (m : Int)) = (a2 : Int) := by have := unhide hnn; unfold wrap64; omega
            have w1' : IntKind.i64.wrap (2 * (m : Int)) = (a2 : Int) := by have := unhide hnn; rw [IntKind.wrap_i64]; omega
            have w2 : wrap64 ((a2 : Int) + 1) = (b2 : Int) := by have := unhide hnn; unfold wrap64; omega
            have w2' : IntKind.i64.wrap ((a2 : Int) + 1) = (b2 : Int) := by have := unhide hnn; rw [IntKind.wrap_i64]; omega
            have w3 : wrap64 ((m : Int) - 1) = (m : Int) - 1 := by have := unhide hnn; unfold wrap64; omega
            have i1 : (a2 : Int) < (tt : Int) := by omega
            have i2 : (b2 : Int) < (tt : Int) := by omega
            have i3 : (m : Int) < (tt : Int) := by omega
            have i4 : (0 : Int) ≤ (a2 : Int) := by omega
            have i5 : (0 : Int) ≤ (b2 : Int) := by omega
            have i6 : (0 : Int) ≤ (m : Int) := by omega
            have i7 : (0 : Int) < (m : Int) := by omega
            have i8 : decide ((0 : Int) < (m : Int)) = true := decide_eq_true i7
            have d1 := hT.c1
            have p1 := (hT.rs (2 * m) (by omega)).1
            have p2 := (hT.rs (2 * m + 1) hmt).1
            obtain ⟨p3, p4⟩ := hT.rs m (by omega)
            have hor := bits_or_u64_nat _ _ (gS (2 * m)) (gS (2 * m + 1))
            have SS : Hid (upP m (S.set m (S.getD (2 * m) 0 ||| S.getD (2 * m + 1) 0)) = nodP 1 l ∧ (∀ x ∈ S.set m (S.getD (2 * m) 0 ||| S.getD (2 * m + 1) 0), x < 18446744073709551616)) := hide ⟨u1, set_bd bS m _ (or_lt (gS _) (gS _))⟩
            have NX : Hid (∀ zx, G (wr.setCell ⟨s, m, none⟩ (.int .u64 ((S.getD (2 * m) 0 ||| S.getD (2 * m + 1) 0 : Nat) : Int))) zx → TI W t ao ac tb s r zx (S.set m (S.getD (2 * m) 0 ||| S.getD (2 * m + 1) 0)) R) := hide fun zx gz => (hT.setS m _ (by omega)).gg gz
            have RR : Hid (upP m (R.set m (R.getD (2 * m) 0 ||| R.getD (2 * m + 1) 0)) = nodP 0 l ∧ (∀ x ∈ R.set m (R.getD (2 * m) 0 ||| R.getD (2 * m + 1) 0), x < 18446744073709551616)) := hide ⟨u2, set_bd bR m _ (or_lt (gR _) (gR _))⟩
            have hor2 := bits_or_u64_nat _ _ (gR (2 * m)) (gR (2 * m + 1))
            have hmt2 : Hid (m ≤ t ∧ 2 * m + 1 < 2 * t) := hide ⟨by omega, hmt⟩
            rw [← htt] at d1
            rw [← ha2] at p1
            rw [← hb2] at p2
            generalize S.set m (S.getD (2 * m) 0 ||| S.getD (2 * m + 1) 0) = S2 at SS NX
            generalize S.getD (2 * m) 0 ||| S.getD (2 * m + 1) 0 = so at hor NX
            rw [← hb2, ← ha2] at hor
            generalize S.getD a2 0 = sa at p1 hor
            generalize S.getD b2 0 = sb at p2 hor
            generalize S.getD m 0 = sc at p3
            replace hor2 := hide hor2
            replace ha2 := hide ha2
            replace hb2 := hide hb2
            replace htt := hide htt
            clear HW hT u1 u2 hjt bS bR gS gR hzz hj hm hmt
            go_upto_region 15 with fail
            go_cut [] (fun wx => Hid (TI W t ao ac tb s r wx S2 R))
            case first =>
              go_region
              all_goals
                go_wp2_with fail
                go_meet
                first | exact hide (unhide NX _ (G.refl _)) | exact hide (unhide NX _ (G.refl _).drew)
            case rest =>
              clear NX hor p1 p2 p3 p4 d1
              have hT2 := unhide hcut
              have d2 := hT2.c2
              have p1 := (hT2.rr (2 * m) (by have := (unhide hmt2).2; omega)).1
              have p2 := (hT2.rr (2 * m + 1) (unhide hmt2).2).1
              obtain ⟨p3, p4⟩ := hT2.rr m (by have := (unhide hmt2).2; omega)
              have hor := unhide hor2
              have NX : Hid (∀ zx, G (wc.setCell ⟨r, m, none⟩ (.int .u64 ((R.getD (2 * m) 0 ||| R.getD (2 * m + 1) 0 : Nat) : Int))) zx → TI W t ao ac tb s r zx S2 (R.set m (R.getD (2 * m) 0 ||| R.getD (2 * m + 1) 0))) := hide fun zx gz => (hT2.setR m _ (by have := (unhide hmt2).2; omega)).gg gz
              rw [← unhide htt] at d2
              rw [← unhide ha2] at p1
              rw [← unhide hb2] at p2
              generalize R.set m (R.getD (2 * m) 0 ||| R.getD (2 * m + 1) 0) = R2 at RR NX
              generalize R.getD (2 * m) 0 ||| R.getD (2 * m + 1) 0 = ro at hor NX
              rw [← unhide hb2, ← unhide ha2] at hor
              generalize R.getD a2 0 = ra at p1 hor
              generalize R.getD b2 0 = rb at p2 hor
              generalize R.getD m 0 = rc at p3
              clear hT2 hcut hor2
              have K : Hid (∀ zx, G (wc.setCell ⟨r, m, none⟩ (.int .u64 (ro : Int))) zx → TI W t ao ac tb s r zx S2 R2 ∧ upP m S2 = nodP 1 l ∧ upP m R2 = nodP 0 l ∧ m ≤ t ∧ (∀ x ∈ S2, x < 18446744073709551616) ∧ (∀ x ∈ R2, x < 18446744073709551616)) := hide fun zx gz => ⟨unhide NX zx gz, (unhide SS).1, (unhide RR).1, (unhide hmt2).1, (unhide SS).2, (unhide RR).2⟩
              clear NX SS RR
              go_upto_region 16 with fail
              go_region
              all_goals
                go_wp2_with fail
                go_roundw
                case rel => exact ⟨m, _, S2, R2, rfl, by first | exact w3 | rfl, hide (by first | exact unhide K _ (G.refl _) | exact unhide K _ (G.refl _).drew)⟩
                case measure => exact dec_z _ m rfl _ (by first | exact w3 | rfl)
          · have hz0 : ¬ (0 : Int) < zz := by omega
            have hz1 : decide ((0 : Int) < zz) = false := decide_eq_false hz0
            obtain ⟨hT, u1, u2, hjt, bS, bR⟩ := unhide HW
            rw [up_le j _ (by omega)] at u1 u2
            subst u1 u2
            have gw := hide hT.g
            have hbl : w.heap.size < W.heap.size := by have := unhide hWs; omega
            have bx : wr.heap[w.heap.size]? = some (.cells #[.slice none 0 0, .slice none 0 0, .slice none 0 0] 96 (0, 0)) := (hT.g.block _ hbl).trans (by rw [hW]; exact heap_alloc_new w _)
            have z0 : wr.cell? ⟨w.heap.size, 0, none⟩ = some (.slice none 0 0) := by rw [cell_of_row _ _ _ _ _ _ bx]; rfl
            have z1 : wr.cell? ⟨w.heap.size, 1, none⟩ = some (.slice none 0 0) := by rw [cell_of_row _ _ _ _ _ _ bx]; rfl
            have z2 : wr.cell? ⟨w.heap.size, 2, none⟩ = some (.slice none 0 0) := by rw [cell_of_row _ _ _ _ _ _ bx]; rfl
            have ff : ∀ i, wr.frozen? ⟨w.heap.size, i, none⟩ = false := fun i => by
              unfold World.frozen?
              rw [show wr.heap[(⟨w.heap.size, i, none⟩ : Addr).block]? = _ from bx]
              simp
            have f0 := ff 0
            have f1 := ff 1
            have f2 := ff 2
            have d0 := hT.c0
            have d1 := hT.c1
            have d2 := hT.c2
            have nb : tb ≠ w.heap.size := by have := hT.lt.1; omega
            have FIN : Hid (∀ z : World, z.heap[s]? = wr.heap[s]? → z.heap[r]? = wr.heap[r]? → wr.heap.size ≤ z.heap.size → RowAt elU z (some ⟨s, 0, none⟩) (2 * t) (2 * t) (nodP 1 l) ∧ RowAt elU z (some ⟨r, 0, none⟩) (2 * t) (2 * t) (nodP 0 l)) := hide fun z es er hz => hT.row (unhide hnn) es er hz
            have nsr : Hid (s ≠ w.heap.size ∧ r ≠ w.heap.size) := hide (by have := hT.lt.2.1; have := hT.lt.2.2; omega)
            clear HW hT bS bR hjt hbl bx ff
            go_wp2_with fail
            obtain ⟨wf, hwf⟩ : ∃ x, x = (((wr.setCell ⟨w.heap.size, 0, none⟩ (.slice ao t ac)).setCell ⟨w.heap.size, 1, none⟩ (.slice (some ⟨s, 0, none⟩) (2 * t) (2 * t))).setCell ⟨w.heap.size, 2, none⟩ (.slice (some ⟨r, 0, none⟩) (2 * t) (2 * t))) := ⟨_, rfl⟩
            have e0 : wf.cell? ⟨w.heap.size, 0, none⟩ = some (.slice ao t ac) := by rw [hwf, cell_other _ (Or.inr (by decide)), cell_other _ (Or.inr (by decide))]; exact cell_same _ z0
            have e1 : wf.cell? ⟨w.heap.size, 1, none⟩ = some (.slice (some ⟨s, 0, none⟩) (2 * t) (2 * t)) := by rw [hwf, cell_other _ (Or.inr (by decide))]; exact cell_same _ (by rw [cell_other _ (Or.inr (by decide))]; exact z1)
            have e2 : wf.cell? ⟨w.heap.size, 2, none⟩ = some (.slice (some ⟨r, 0, none⟩) (2 * t) (2 * t)) := by rw [hwf]; exact cell_same _ (by rw [cell_other _ (Or.inr (by decide)), cell_other _ (Or.inr (by decide))]; exact z2)
            have hb : ∀ k, k ≠ w.heap.size → wf.heap[k]? = wr.heap[k]? := fun k hk => by rw [hwf, Below.heap_setCell _ _ _ _ hk, Below.heap_setCell _ _ _ _ hk, Below.heap_setCell _ _ _ _ hk]
            have hsz : wr.heap.size ≤ wf.heap.size := by rw [hwf, World.size_setCell, World.size_setCell, World.size_setCell]; exact Nat.le_refl _
            have gf : G w wf := by
              rw [hwf]
              exact G.set (G.set (G.set ((unhide GW).trans (unhide gw)) _ _ _ (Nat.le_refl _)) _ _ _ (Nat.le_refl _)) _ _ _ (Nat.le_refl _)
            have RW := hide (unhide FIN wf (hb s (unhide nsr).1) (hb r (unhide nsr).2) hsz)
            replace gf := hide gf
            rw [← hwf]
            clear hwf z0 z1 z2 f0 f1 f2 d0 d1 d2 hb hsz FIN nsr gw
            refine bodyPost_ret (res_tree rfl _ _ _ _ _ _ rfl e0 e1 e2) rfl ?_
            exact ⟨s, r, rfl, (unhide RW).1, (unhide RW).2, unhide gf⟩
end Go.Proofs.YtiangegoglfpeaaDoor

/- Package fresh: a graph at which nothing is known yet. -/
namespace Go.Proofs.YtiangegoglfpeaaDoor
set_option maxRecDepth 100000
open Go.RowKit Go.Maps Go.ChangeShapes Go.WideShapes Go.ChangeAt Go.Deep

theorem info_knp : (Tryd.prog.info? 107).map (fun i => (i.zero, i.size, i.bytes)) = some (some (.pointer none), 1, 8) := by kernel_rfl
theorem info_bl : (Tryd.prog.info? 4).map (fun i => (i.zero, i.size, i.bytes)) = some (some (.bool false), 1, 1) := by kernel_rfl
theorem mk_kns (n : Nat) (hn : n ≤ 10000000) (w : World) : (Instr.makeSlice 99 (.int .i64 (n : Int)) (.int .i64 (n : Int))).run Tryd.prog w = .ok (.slice (some ⟨w.heap.size, 0, none⟩) n n) (w.alloc (.cells (madeCells #[.pointer none] n) 107)) := by
  obtain ⟨i, hi, hz, hs, hb⟩ := info_parts info_knp
  have := run_make (P := Tryd.prog) w 99 107 i (.pointer none) Tryd.underlying99 hi hz .i64 .i64 (n : Int) (n : Int) (by omega) (by omega) (by rw [hb]; omega) (by omega)
  rw [this, hs, Int.toNat_natCast, Nat.mul_one]
  rfl
theorem mk_bls (n : Nat) (hn : n ≤ 10000000) (w : World) : (Instr.makeSlice 24 (.int .i64 (n : Int)) (.int .i64 (n : Int))).run Tryd.prog w = .ok (.slice (some ⟨w.heap.size, 0, none⟩) n n) (w.alloc (.cells (madeCells #[.bool false] n) 4)) := by
  obtain ⟨i, hi, hz, hs, hb⟩ := info_parts info_bl
  have := run_make (P := Tryd.prog) w 24 4 i (.bool false) Tryd.underlying24 hi hz .i64 .i64 (n : Int) (n : Int) (by omega) (by omega) (by rw [hb]; omega) (by omega)
  rw [this, hs, Int.toNat_natCast, Nat.mul_one]
  rfl
theorem made_all (v : Value) (t : TypeId) (w : World) (b n : Nat) (h : w.heap[b]? = some (.cells (madeCells #[v] n) t (0, 0))) : ∀ i, i < n → w.cell? ⟨b, i, none⟩ = some v ∧ w.frozen? ⟨b, i, none⟩ = false := fun i hi => by
  refine ⟨?_, ?_⟩
  · rw [cell_of_row _ _ _ _ _ _ h]
    have hs : i < (madeCells #[v] n).size := by rw [size_madeCells]; omega
    rw [Array.getElem?_eq_getElem hs]
    simp [madeCells, Nat.mod_one]
  · unfold World.frozen?
    rw [show w.heap[(⟨b, i, none⟩ : Addr).block]? = _ from h]
    simp
theorem st0_A (N n : Nat) : (st0 N).A.getD n none = none := by
  unfold st0
  rw [List.getD_eq_getElem?_getD, List.getElem?_replicate]
  split <;> rfl
theorem st0_W (N n : Nat) : (st0 N).W.getD n false = false := by
  unfold st0
  rw [List.getD_eq_getElem?_getD, List.getElem?_replicate]
  split <;> rfl
def gC9 (z : Gk) (m : Md) (f : Fn) (ab wb N : Nat) : Array Value := #[.slice z.so m.sh.length z.sc, .slice z.go m.gl.length z.gc, .slice z.co m.co.length z.cc, .slice z.ao m.ca.length z.ac, .slice z.fo m.fn.length z.fc, .int .i64 m.main, .int .i64 f.p, .int .i64 f.c, .int .i64 f.s, .int .i64 f.r, .slice z.ko f.ks.length z.kc, .slice z.io f.is.length z.ic, .slice z.mo f.ms.length z.mc, .slice z.ao m.ca.length z.ac, .slice z.sb (2 * m.ca.length) z.s2, .slice z.rb (2 * m.ca.length) z.r2, .slice (some ⟨ab, 0, none⟩) N N, .slice (some ⟨wb, 0, none⟩) N N, .slice none 0 0]
theorem gi_mk {W0 y : World} {gB ab wb N : Nat} {z : Gk} {m : Md} {f : Fn} (g : G W0 y) (lt : W0.heap.size ≤ gB ∧ W0.heap.size ≤ ab ∧ W0.heap.size ≤ wb) (ne : gB ≠ ab ∧ gB ≠ wb ∧ ab ≠ wb)
    (hb : y.heap[gB]? = some (.cells (gC9 z m f ab wb N) 105 (0, 0))) (ha : y.heap[ab]? = some (.cells (madeCells #[.pointer none] N) 107 (0, 0))) (hw : y.heap[wb]? = some (.cells (madeCells #[.bool false] N) 4 (0, 0))) :
    GI W0 (M0 W0) y.heap.size gB ab wb N (gC z m f ab wb N) y (st0 N) (fun _ => 0) (.slice none 0 0) := by
  have lu : ∀ b o, y.heap[b]? = some o → b < y.heap.size := fun b o h => by
    rcases Nat.lt_or_ge b y.heap.size with hh | hh
    · exact hh
    · rw [Array.getElem?_eq_none hh] at h; cases h
  have ca := made_all _ _ y ab N ha
  have cw := made_all _ _ y wb N hw
  have cg : ∀ i v, (gC9 z m f ab wb N)[i]? = some v → y.cell? ⟨gB, i, none⟩ = some v := fun i v hv => by rw [cell_of_row _ _ _ _ _ _ hb]; exact hv
  refine ⟨g, fun k hk => hk, lt.1, lt.2.1, lt.2.2, lu _ _ ha, lu _ _ hw, ne.1, ne.2.1, ne.2.2, Nat.le_refl _, ⟨cg 18 _ rfl, ?_, ownl_nil _ _, lu _ _ hb, ?_, Nat.le_refl 18⟩, (fun k hk => by cases hk), fun n hn => (ca n hn).2, fun n hn _ => (ca n hn).1, fun n k hn hk => ?_, fun n n' k k' _ _ _ hk => ?_, fun n hn => ?_⟩
  · unfold World.frozen?
    rw [show y.heap[(⟨gB, 18, none⟩ : Addr).block]? = _ from hb]
    simp
  · intro i v hv
    have hlt : i < 18 := by
      have h1 := (List.getElem?_eq_some_iff.1 hv).1
      have h2 : (gC z m f ab wb N).length = 18 := rfl
      omega
    rw [Nat.zero_add]
    refine cg i v ?_
    rw [← hv]
    have h9 : gC9 z m f ab wb N = (gC z m f ab wb N ++ [Value.slice none 0 0]).toArray := rfl
    rw [h9, List.getElem?_toArray, List.getElem?_append_left (show i < (gC z m f ab wb N).length from hlt)]
  · rw [st0_A] at hk; cases hk
  · rw [st0_A] at hk; cases hk
  · rw [st0_W]; exact cw n hn
end Go.Proofs.YtiangegoglfpeaaDoor

/- Package fresh: graphOf. -/
namespace Go.Proofs.YtiangegoglfpeaaDoor
set_option maxRecDepth 100000
open Go.RowKit Go.Maps Go.ChangeShapes Go.WideShapes Go.ChangeAt Go.Deep

/-- A graph is answered at which nothing is known yet. -/
def GrTo (w : World) (m : Md) (f : Fn) (e : Ending) (w' : World) : Prop := ∃ (W0 : World) (B gB ab wb : Nat) (z : Gk) (P : Nat → Nat), e = .returned (.pointer (some ⟨gB, 0, none⟩)) ∧ G w W0 ∧ StA W0 z m f (nodP 1 m.ca) (nodP 0 m.ca) ∧ GI W0 (M0 W0) B gB ab wb (f.is.length + 2 * m.ca.length) (gC z m f ab wb (f.is.length + 2 * m.ca.length)) w' (st0 (f.is.length + 2 * m.ca.length)) P (.slice none 0 0)
set_option maxHeartbeats 1000000 in
theorem graphOf_any (w : World) (m : Md) (so : Option Addr) (sc : Nat) (go : Option Addr) (gc : Nat) (co : Option Addr) (cc : Nat) (ao : Option Addr) (ac : Nat) (fo : Option Addr) (fc : Nat) (f : Fn) (ko : Option Addr) (kc : Nat) (io : Option Addr) (ic : Nat) (mo : Option Addr) (mc : Nat) (h : ModR w m so sc go gc co cc ao ac fo fc) (hi : RowAt elIn w io f.is.length ic f.is) (ht : TabZ w) (hw : RowsAt w) (oi : ∀ x ∈ f.is, oIn x) (oc : ∀ c ∈ m.ca, oCa c) (hN : f.is.length + 2 * m.ca.length ≤ 1000000) :
    Calls Tryd.prog 20 #[agM m so sc go gc co cc ao ac fo fc, agF f ko kc io ic mo mc] w (GrTo w m f) := by
  obtain ⟨L, hL⟩ : ∃ L, L = f.is.length := ⟨_, rfl⟩
  obtain ⟨C, hC⟩ : ∃ C, C = m.ca.length := ⟨_, rfl⟩
  obtain ⟨N, hNN⟩ : ∃ N, N = L + 2 * C := ⟨_, rfl⟩
  have hNb : N ≤ 1000000 := by omega
  have hCb : C ≤ 1000000 := by omega
  unfold agM agF
  rw [← hC, ← hL]
  obtain ⟨W1, hW1⟩ : ∃ W1, W1 = (w.alloc (.cells #[.slice so m.sh.length sc, .slice go m.gl.length gc, .slice co m.co.length cc, .slice ao C ac, .slice fo m.fn.length fc, .int .i64 m.main] 29)).alloc (.cells #[.int .i64 f.p, .int .i64 f.c, .int .i64 f.s, .int .i64 f.r, .slice ko f.ks.length kc, .slice io L ic, .slice mo f.ms.length mc] 33) := ⟨_, rfl⟩
  have gW1 : G w W1 := by rw [hW1]; exact ((G.refl w).more _).more _
  have s1 : w.heap.size + 1 + 1 ≤ W1.heap.size := by rw [hW1, World.size_alloc, World.size_alloc]; omega
  have MB : Hid (∀ x, G W1 x → x.cell? ⟨w.heap.size, 0, none⟩ = some (.slice so m.sh.length sc) ∧ x.cell? ⟨w.heap.size, 1, none⟩ = some (.slice go m.gl.length gc) ∧ x.cell? ⟨w.heap.size, 2, none⟩ = some (.slice co m.co.length cc) ∧ x.cell? ⟨w.heap.size, 3, none⟩ = some (.slice ao C ac) ∧ x.cell? ⟨w.heap.size, 4, none⟩ = some (.slice fo m.fn.length fc) ∧ x.cell? ⟨w.heap.size, 5, none⟩ = some (.int .i64 m.main)) := hide fun x g => by
    have e : ∀ i v, W1.cell? ⟨w.heap.size, i, none⟩ = some v → x.cell? ⟨w.heap.size, i, none⟩ = some v := fun i v hv => g.cell hv
    refine ⟨e 0 _ ?_, e 1 _ ?_, e 2 _ ?_, e 3 _ ?_, e 4 _ ?_, e 5 _ ?_⟩
    all_goals (rw [hW1]; simp [go_sem])
  have FB : Hid (∀ x, G W1 x → x.cell? ⟨w.heap.size + 1, 0, none⟩ = some (.int .i64 f.p) ∧ x.cell? ⟨w.heap.size + 1, 1, none⟩ = some (.int .i64 f.c) ∧ x.cell? ⟨w.heap.size + 1, 2, none⟩ = some (.int .i64 f.s) ∧ x.cell? ⟨w.heap.size + 1, 3, none⟩ = some (.int .i64 f.r) ∧ x.cell? ⟨w.heap.size + 1, 4, none⟩ = some (.slice ko f.ks.length kc) ∧ x.cell? ⟨w.heap.size + 1, 5, none⟩ = some (.slice io L ic) ∧ x.cell? ⟨w.heap.size + 1, 6, none⟩ = some (.slice mo f.ms.length mc)) := hide fun x g => by
    have e : ∀ i v, W1.cell? ⟨w.heap.size + 1, i, none⟩ = some v → x.cell? ⟨w.heap.size + 1, i, none⟩ = some v := fun i v hv => g.cell hv
    refine ⟨e 0 _ ?_, e 1 _ ?_, e 2 _ ?_, e 3 _ ?_, e 4 _ ?_, e 5 _ ?_, e 6 _ ?_⟩
    all_goals (rw [hW1]; simp [go_sem])
  have C1 : Hid (Calls Tryd.prog 32 #[.slice ao C ac] W1 (TreeTo W1 C ao ac (nodP 1 m.ca) (nodP 0 m.ca))) := hide (caseTreeOf_any W1 ao C ac m.ca (by rw [hC]; exact h.r4.g okCa gW1) oc hCb)
  have FIN : Hid (∀ (s r : Nat) (w2 y1 : World), G W1 w2 → RowAt elU w2 (some ⟨s, 0, none⟩) (2 * C) (2 * C) (nodP 1 m.ca) → RowAt elU w2 (some ⟨r, 0, none⟩) (2 * C) (2 * C) (nodP 0 m.ca) → G w2 y1 → ∀ (y : World) (gB ab wb : Nat), G y1 y → (y1.heap.size ≤ gB ∧ y1.heap.size ≤ ab ∧ y1.heap.size ≤ wb) → (gB ≠ ab ∧ gB ≠ wb ∧ ab ≠ wb) →
      y.heap[gB]? = some (.cells #[.slice so m.sh.length sc, .slice go m.gl.length gc, .slice co m.co.length cc, .slice ao C ac, .slice fo m.fn.length fc, .int .i64 m.main, .int .i64 f.p, .int .i64 f.c, .int .i64 f.s, .int .i64 f.r, .slice ko f.ks.length kc, .slice io L ic, .slice mo f.ms.length mc, .slice ao C ac, .slice (some ⟨s, 0, none⟩) (2 * C) (2 * C), .slice (some ⟨r, 0, none⟩) (2 * C) (2 * C), .slice (some ⟨ab, 0, none⟩) N N, .slice (some ⟨wb, 0, none⟩) N N, .slice none 0 0] 105 (0, 0)) →
      y.heap[ab]? = some (.cells (madeCells #[.pointer none] N) 107 (0, 0)) → y.heap[wb]? = some (.cells (madeCells #[.bool false] N) 4 (0, 0)) → GrTo w m f (.returned (.pointer (some ⟨gB, 0, none⟩))) y) := hide fun s r w2 y1 g2 hS hR gy y gB ab wb g9 lt ne hb ha hwb => by
    have g0 : G w y1 := (gW1.trans g2).trans gy
    have sz : 2 ≤ y1.heap.size := by have h1 := g2.size; have h2 := gy.size; omega
    subst hNN hL hC
    refine ⟨y1, y.heap.size, gB, ab, wb, ⟨so, sc, go, gc, co, cc, ao, ac, fo, fc, ko, kc, io, ic, mo, mc, some ⟨s, 0, none⟩, 2 * m.ca.length, some ⟨r, 0, none⟩, 2 * m.ca.length⟩, fun _ => 0, rfl, g0, ?_, gi_mk g9 lt ne hb ha hwb⟩
    exact ⟨h.g g0, hi.g okIn g0, hS.g okU gy, hR.g okU gy, ht.g g0, hw.g g0, oi, oc, nod_bd 1 m.ca, nod_bd 0 m.ca, hCb, by omega, sz⟩
  have NC : Hid (∀ (x : World) (sb rb : Option Addr) (a1 a2 b1 b2 : Nat), Calls Tryd.prog 33 #[.agg #[.slice ao C ac, .slice sb a1 a2, .slice rb b1 b2]] x fun e w' => e = .returned (.int .i64 ((2 * C : Nat) : Int)) ∧ G x w') := hide fun x sb rb a1 a2 b1 b2 => nodes_any x C ao ac sb a1 a2 rb b1 b2 hCb
  have wN : wrap64 ((L : Int) + ((2 * C : Nat) : Int)) = (N : Int) := by unfold wrap64; omega
  have wN2 : IntKind.i64.wrap ((L : Int) + ((2 * C : Nat) : Int)) = (N : Int) := by rw [IntKind.wrap_i64]; omega
  have wN3 : IntKind.i64.wrap ((L : Int) + 2 * (C : Int)) = (N : Int) := by rw [IntKind.wrap_i64]; omega
  have wN4 : wrap64 ((L : Int) + 2 * (C : Int)) = (N : Int) := by unfold wrap64; omega
  have MK := hide (mk_kns N (Nat.le_trans hNb (by decide)))
  have MW := hide (mk_bls N (Nat.le_trans hNb (by decide)))
  have m3 := (unhide MB W1 (G.refl _)).2.2.2.1
  replace hNN := hide hNN
  replace hL := hide hL
  replace hC := hide hC
  replace gW1 := hide gW1
  replace s1 := hide s1
  clear h hi ht hw oi oc hN hNb hCb
  go_enter Tryd.func20, Tryd.ntmps20
  go_upto_region 1 with fail
  rw [← hW1]
  clear hW1
  go_wp2_with fail
  refine (unhide C1).mono ?_
  rintro e w2 ⟨s, r, rfl, hS, hR, g2⟩
  clear C1 m3
  replace FIN := hide (fun y1 => unhide FIN s r w2 y1 g2 hS hR)
  replace g2 := hide g2
  clear hS hR
  go_upto_region 2 with fail
  obtain ⟨W3, hW3⟩ : ∃ x, x = w2.alloc (.cells #[.slice ao C ac, .slice (some ⟨s, 0, none⟩) (2 * C) (2 * C), .slice (some ⟨r, 0, none⟩) (2 * C) (2 * C)] 96) := ⟨_, rfl⟩
  rw [← hW3]
  have g3 : G w2 W3 := by rw [hW3]; exact G.alloc _ _
  have TB : Hid (∀ x, G W3 x → x.cell? ⟨w2.heap.size, 0, none⟩ = some (.slice ao C ac) ∧ x.cell? ⟨w2.heap.size, 1, none⟩ = some (.slice (some ⟨s, 0, none⟩) (2 * C) (2 * C)) ∧ x.cell? ⟨w2.heap.size, 2, none⟩ = some (.slice (some ⟨r, 0, none⟩) (2 * C) (2 * C))) := hide fun x g => by
    have e : ∀ i v, W3.cell? ⟨w2.heap.size, i, none⟩ = some v → x.cell? ⟨w2.heap.size, i, none⟩ = some v := fun i v hv => g.cell hv
    refine ⟨e 0 _ ?_, e 1 _ ?_, e 2 _ ?_⟩
    all_goals (rw [hW3]; simp [go_sem])
  clear hW3
  have MB3 := hide (fun x (g : G W3 x) => unhide MB x (((unhide g2).trans g3).trans g))
  have FB3 := hide (fun x (g : G W3 x) => unhide FB x (((unhide g2).trans g3).trans g))
  replace FIN := hide (fun y1 (g : G W3 y1) => unhide FIN y1 (g3.trans g))
  clear MB FB g3
  refine wp_region_noPanic ?_
  refine wp_region_held_drew (S := fun x => G W3 x) (by kernel_rfl) (G.drewN W3 1) (fun hHeld => ?_)
  obtain ⟨y1, hy1⟩ : ∃ y, y = W3.drew := ⟨_, rfl⟩
  rw [← hy1] at hHeld ⊢
  clear hy1
  refine wpAnyH_take (i := 0) (v := .pointer (some ⟨w.heap.size + 1, 5, none⟩)) rfl (by kernel_rfl) (by kernel_rfl) (by kernel_rfl) (fun _ _ _ h => h) (Or.inl ⟨by rfl, fun w hSw => by go_simp⟩) (by assumption) ?_
  try simp only [Act.put, List.getElem_toArray, List.getElem_cons_zero, List.setIfInBounds_toArray, List.set_cons_zero, List.set_cons_succ]
  refine wpAnyH_take (i := 1) (v := .slice io L ic) rfl (by kernel_rfl) (by kernel_rfl) (by kernel_rfl) (fun _ _ _ h => h) (Or.inl ⟨by rfl, fun w hSw => by have t5 := (unhide FB3 w hSw).2.2.2.2.2.1; go_simp⟩) (by assumption) ?_
  try simp only [Act.put, List.getElem_toArray, List.getElem_cons_succ, List.getElem_cons_zero, List.setIfInBounds_toArray, List.set_cons_zero, List.set_cons_succ]
  refine wpAnyH_take (i := 2) (v := .int .i64 (L : Int)) rfl (by kernel_rfl) (by kernel_rfl) (by kernel_rfl) (fun _ _ _ h => h) (Or.inl ⟨by rfl, fun w hSw => by go_simp⟩) (by assumption) ?_
  try simp only [Act.put, List.getElem_toArray, List.getElem_cons_succ, List.getElem_cons_zero, List.setIfInBounds_toArray, List.set_cons_zero, List.set_cons_succ]
  refine wpAnyH_take (i := 3) (v := .agg #[.slice ao C ac, .slice (some ⟨s, 0, none⟩) (2 * C) (2 * C), .slice (some ⟨r, 0, none⟩) (2 * C) (2 * C)]) rfl (by kernel_rfl) (by kernel_rfl) (by kernel_rfl) (fun _ _ _ h => h) (Or.inl ⟨by rfl, fun w hSw => by obtain ⟨t0, t1, t2⟩ := unhide TB w hSw; go_simp⟩) (by assumption) ?_
  try simp only [Act.put, List.getElem_toArray, List.getElem_cons_succ, List.getElem_cons_zero, List.setIfInBounds_toArray, List.set_cons_zero, List.set_cons_succ]
  refine wpAnyH_ready (rs := [4]) (by kernel_rfl) (by simp) ?_
  refine AllReadyH.cons rfl (fun K hK => ?_) AllReadyH.nil
  go_simp
  refine (unhide NC y1 _ _ _ _ _ _).mono ?_
  rintro e y2 ⟨rfl, gy2⟩
  go_wp2_with fail
  have hg2 := hHeld.trans gy2
  refine hK.out _ _ hg2 (fun hH2 => ?_)
  clear hK K
  try simp only [Act.put, List.getElem_toArray, List.getElem_cons_succ, List.getElem_cons_zero, List.setIfInBounds_toArray, List.set_cons_zero, List.set_cons_succ]
  refine wpAnyH_take (i := 5) (v := .int .i64 (N : Int)) rfl (by kernel_rfl) (by kernel_rfl) (by kernel_rfl) (fun _ _ _ h => h) (Or.inl ⟨by rfl, fun w hSw => by go_simp⟩) (by assumption) ?_
  try simp only [Act.put, List.getElem_toArray, List.getElem_cons_succ, List.getElem_cons_zero, List.setIfInBounds_toArray, List.set_cons_zero, List.set_cons_succ]
  refine wpAnyH_take (i := 6) (v := .int .i64 (N : Int)) rfl (by kernel_rfl) (by kernel_rfl) (by kernel_rfl) (fun _ _ _ h => h) (Or.inl ⟨by rfl, fun w hSw => by go_simp⟩) (by assumption) ?_
  try simp only [Act.put, List.getElem_toArray, List.getElem_cons_succ, List.getElem_cons_zero, List.setIfInBounds_toArray, List.set_cons_zero, List.set_cons_succ]
  refine wpAnyH_done (by kernel_rfl) (NoPanic.normal ?_) _
  clear NC hHeld gy2 hH2 wN wN2 wN3 wN4
  go_wp2_with fail
  refine wp_region_noPanic ?_
  refine wp_region_held_drew (S := fun x => G W3 x) (by kernel_rfl) hg2.drew (fun hHeld => ?_)
  obtain ⟨y3, hy3⟩ : ∃ y, y = y2.drew := ⟨_, rfl⟩
  rw [← hy3] at hHeld ⊢
  clear hy3 hg2
  refine wpAnyH_take (i := 0) (v := .agg #[.slice so m.sh.length sc, .slice go m.gl.length gc, .slice co m.co.length cc, .slice ao C ac, .slice fo m.fn.length fc, .int .i64 m.main]) rfl (by kernel_rfl) (by kernel_rfl) (by kernel_rfl) (fun _ _ _ h => h) (Or.inl ⟨by rfl, fun w hSw => by obtain ⟨t0, t1, t2, t3, t4, t5⟩ := unhide MB3 w hSw; go_simp⟩) (by assumption) ?_
  try simp only [Act.put, List.getElem_toArray, List.getElem_cons_zero, List.setIfInBounds_toArray, List.set_cons_zero, List.set_cons_succ]
  refine wpAnyH_take (i := 1) (v := .agg #[.int .i64 f.p, .int .i64 f.c, .int .i64 f.s, .int .i64 f.r, .slice ko f.ks.length kc, .slice io L ic, .slice mo f.ms.length mc]) rfl (by kernel_rfl) (by kernel_rfl) (by kernel_rfl) (fun _ _ _ h => h) (Or.inl ⟨by rfl, fun w hSw => by obtain ⟨t0, t1, t2, t3, t4, t5, t6⟩ := unhide FB3 w hSw; go_simp⟩) (by assumption) ?_
  try simp only [Act.put, List.getElem_toArray, List.getElem_cons_succ, List.getElem_cons_zero, List.setIfInBounds_toArray, List.set_cons_zero, List.set_cons_succ]
  refine wpAnyH_take (i := 2) (v := .agg #[.slice ao C ac, .slice (some ⟨s, 0, none⟩) (2 * C) (2 * C), .slice (some ⟨r, 0, none⟩) (2 * C) (2 * C)]) rfl (by kernel_rfl) (by kernel_rfl) (by kernel_rfl) (fun _ _ _ h => h) (Or.inl ⟨by rfl, fun w hSw => by obtain ⟨t0, t1, t2⟩ := unhide TB w hSw; go_simp⟩) (by assumption) ?_
  try simp only [Act.put, List.getElem_toArray, List.getElem_cons_succ, List.getElem_cons_zero, List.setIfInBounds_toArray, List.set_cons_zero, List.set_cons_succ]
  refine wpAnyH_take (i := 3) (v := .int .i64 (N : Int)) rfl (by kernel_rfl) (by kernel_rfl) (by kernel_rfl) (fun _ _ _ h => h) (Or.inl ⟨by rfl, fun w hSw => by go_simp⟩) (by assumption) ?_
  try simp only [Act.put, List.getElem_toArray, List.getElem_cons_succ, List.getElem_cons_zero, List.setIfInBounds_toArray, List.set_cons_zero, List.set_cons_succ]
  refine wpAnyH_take (i := 5) (v := .int .i64 (N : Int)) rfl (by kernel_rfl) (by kernel_rfl) (by kernel_rfl) (fun _ _ _ h => h) (Or.inl ⟨by rfl, fun w hSw => by go_simp⟩) (by assumption) ?_
  try simp only [Act.put, List.getElem_toArray, List.getElem_cons_succ, List.getElem_cons_zero, List.setIfInBounds_toArray, List.set_cons_zero, List.set_cons_succ]
  replace FIN := hide (unhide FIN y3 hHeld)
  refine wpAnyH_ready (rs := [4, 6]) (by kernel_rfl) (by simp) ?_
  refine AllReadyH.cons rfl (fun K hK => ?_) (AllReadyH.cons rfl (fun K hK => ?_) AllReadyH.nil)
  · have mk1 := unhide MK y3
    have mk2 := unhide MW (y3.alloc (.cells (madeCells #[.pointer none] N) 107))
    rw [World.size_alloc] at mk2
    go_simp
    refine hK.out _ _ (hHeld.more _) (fun hH2 => ?_)
    clear hK K mk1
    try simp only [Act.put, List.getElem_toArray, List.getElem_cons_succ, List.getElem_cons_zero, List.setIfInBounds_toArray, List.set_cons_zero, List.set_cons_succ]
    refine wpAnyH_ready (rs := [6]) (by kernel_rfl) (by simp) ?_
    refine AllReadyH.cons rfl (fun K hK => ?_) AllReadyH.nil
    go_simp
    refine hK.out _ _ ((hHeld.more _).more _) (fun hH3 => ?_)
    clear hK K mk2
    try simp only [Act.put, List.getElem_toArray, List.getElem_cons_succ, List.getElem_cons_zero, List.setIfInBounds_toArray, List.set_cons_zero, List.set_cons_succ]
    refine wpAnyH_take (i := 7) (v := .agg #[.slice so m.sh.length sc, .slice go m.gl.length gc, .slice co m.co.length cc, .slice ao C ac, .slice fo m.fn.length fc, .int .i64 m.main, .int .i64 f.p, .int .i64 f.c, .int .i64 f.s, .int .i64 f.r, .slice ko f.ks.length kc, .slice io L ic, .slice mo f.ms.length mc, .slice ao C ac, .slice (some ⟨s, 0, none⟩) (2 * C) (2 * C), .slice (some ⟨r, 0, none⟩) (2 * C) (2 * C), .slice (some ⟨y3.heap.size, 0, none⟩) N N, .slice (some ⟨y3.heap.size + 1, 0, none⟩) N N, .slice none 0 0]) rfl (by kernel_rfl) (by kernel_rfl) (by kernel_rfl) (fun _ _ _ h => h) (Or.inl ⟨by rfl, fun w hSw => by go_simp⟩) (by assumption) ?_
    try simp only [Act.put, List.getElem_toArray, List.getElem_cons_succ, List.getElem_cons_zero, List.setIfInBounds_toArray, List.set_cons_zero, List.set_cons_succ]
    refine wpAnyH_ready (rs := [8]) (by kernel_rfl) (by simp) ?_
    refine AllReadyH.cons rfl (fun K hK => ?_) AllReadyH.nil
    go_simp
    refine hK.out _ _ (((hHeld.more _).more _).more _) (fun hH4 => ?_)
    clear hK K
    try simp only [Act.put, List.getElem_toArray, List.getElem_cons_succ, List.getElem_cons_zero, List.setIfInBounds_toArray, List.set_cons_zero, List.set_cons_succ]
    refine wpAnyH_take (i := 9) (v := .pointer (some ⟨y3.heap.size + 1 + 1, 0, none⟩)) rfl (by kernel_rfl) (by kernel_rfl) (by kernel_rfl) (fun _ _ _ h => h) (Or.inl ⟨by rfl, fun w hSw => by go_simp⟩) (by assumption) ?_
    try simp only [Act.put, List.getElem_toArray, List.getElem_cons_succ, List.getElem_cons_zero, List.setIfInBounds_toArray, List.set_cons_zero, List.set_cons_succ]
    refine wpAnyH_done (by kernel_rfl) (NoPanic.normal ?_) _
    obtain ⟨q0, q1, q2, q3⟩ := three y3 (.cells (madeCells #[.pointer none] N) 107) (.cells (madeCells #[.bool false] N) 4) (.cells #[.slice so m.sh.length sc, .slice go m.gl.length gc, .slice co m.co.length cc, .slice ao C ac, .slice fo m.fn.length fc, .int .i64 m.main, .int .i64 f.p, .int .i64 f.c, .int .i64 f.s, .int .i64 f.r, .slice ko f.ks.length kc, .slice io L ic, .slice mo f.ms.length mc, .slice ao C ac, .slice (some ⟨s, 0, none⟩) (2 * C) (2 * C), .slice (some ⟨r, 0, none⟩) (2 * C) (2 * C), .slice (some ⟨y3.heap.size, 0, none⟩) N N, .slice (some ⟨y3.heap.size + 1, 0, none⟩) N N, .slice none 0 0] 105)
    have R := hide (unhide FIN _ (y3.heap.size + 1 + 1) y3.heap.size (y3.heap.size + 1) q0 ⟨by omega, by omega, by omega⟩ ⟨by omega, by omega, by omega⟩ q3 q1 q2)
    clear q0 q1 q2 q3 hHeld hH2 hH3 hH4 FIN MK MW MB3 FB3 TB
    go_wp2_with fail
    refine bodyPost_ret (by simp [results, Tryd.results20, go_sem]; try rfl) rfl ?_
    exact unhide R
  · have mk1 := unhide MW y3
    have mk2 := unhide MK (y3.alloc (.cells (madeCells #[.bool false] N) 4))
    rw [World.size_alloc] at mk2
    go_simp
    refine hK.out _ _ (hHeld.more _) (fun hH2 => ?_)
    clear hK K mk1
    try simp only [Act.put, List.getElem_toArray, List.getElem_cons_succ, List.getElem_cons_zero, List.setIfInBounds_toArray, List.set_cons_zero, List.set_cons_succ]
    refine wpAnyH_ready (rs := [4]) (by kernel_rfl) (by simp) ?_
    refine AllReadyH.cons rfl (fun K hK => ?_) AllReadyH.nil
    go_simp
    refine hK.out _ _ ((hHeld.more _).more _) (fun hH3 => ?_)
    clear hK K mk2
    try simp only [Act.put, List.getElem_toArray, List.getElem_cons_succ, List.getElem_cons_zero, List.setIfInBounds_toArray, List.set_cons_zero, List.set_cons_succ]
    refine wpAnyH_take (i := 7) (v := .agg #[.slice so m.sh.length sc, .slice go m.gl.length gc, .slice co m.co.length cc, .slice ao C ac, .slice fo m.fn.length fc, .int .i64 m.main, .int .i64 f.p, .int .i64 f.c, .int .i64 f.s, .int .i64 f.r, .slice ko f.ks.length kc, .slice io L ic, .slice mo f.ms.length mc, .slice ao C ac, .slice (some ⟨s, 0, none⟩) (2 * C) (2 * C), .slice (some ⟨r, 0, none⟩) (2 * C) (2 * C), .slice (some ⟨y3.heap.size + 1, 0, none⟩) N N, .slice (some ⟨y3.heap.size, 0, none⟩) N N, .slice none 0 0]) rfl (by kernel_rfl) (by kernel_rfl) (by kernel_rfl) (fun _ _ _ h => h) (Or.inl ⟨by rfl, fun w hSw => by go_simp⟩) (by assumption) ?_
    try simp only [Act.put, List.getElem_toArray, List.getElem_cons_succ, List.getElem_cons_zero, List.setIfInBounds_toArray, List.set_cons_zero, List.set_cons_succ]
    refine wpAnyH_ready (rs := [8]) (by kernel_rfl) (by simp) ?_
    refine AllReadyH.cons rfl (fun K hK => ?_) AllReadyH.nil
    go_simp
    refine hK.out _ _ (((hHeld.more _).more _).more _) (fun hH4 => ?_)
    clear hK K
    try simp only [Act.put, List.getElem_toArray, List.getElem_cons_succ, List.getElem_cons_zero, List.setIfInBounds_toArray, List.set_cons_zero, List.set_cons_succ]
    refine wpAnyH_take (i := 9) (v := .pointer (some ⟨y3.heap.size + 1 + 1, 0, none⟩)) rfl (by kernel_rfl) (by kernel_rfl) (by kernel_rfl) (fun _ _ _ h => h) (Or.inl ⟨by rfl, fun w hSw => by go_simp⟩) (by assumption) ?_
    try simp only [Act.put, List.getElem_toArray, List.getElem_cons_succ, List.getElem_cons_zero, List.setIfInBounds_toArray, List.set_cons_zero, List.set_cons_succ]
    refine wpAnyH_done (by kernel_rfl) (NoPanic.normal ?_) _
    obtain ⟨q0, q1, q2, q3⟩ := three y3 (.cells (madeCells #[.bool false] N) 4) (.cells (madeCells #[.pointer none] N) 107) (.cells #[.slice so m.sh.length sc, .slice go m.gl.length gc, .slice co m.co.length cc, .slice ao C ac, .slice fo m.fn.length fc, .int .i64 m.main, .int .i64 f.p, .int .i64 f.c, .int .i64 f.s, .int .i64 f.r, .slice ko f.ks.length kc, .slice io L ic, .slice mo f.ms.length mc, .slice ao C ac, .slice (some ⟨s, 0, none⟩) (2 * C) (2 * C), .slice (some ⟨r, 0, none⟩) (2 * C) (2 * C), .slice (some ⟨y3.heap.size + 1, 0, none⟩) N N, .slice (some ⟨y3.heap.size, 0, none⟩) N N, .slice none 0 0] 105)
    have R := hide (unhide FIN _ (y3.heap.size + 1 + 1) (y3.heap.size + 1) y3.heap.size q0 ⟨by omega, by omega, by omega⟩ ⟨by omega, by omega, by omega⟩ q3 q2 q1)
    clear q0 q1 q2 q3 hHeld hH2 hH3 hH4 FIN MK MW MB3 FB3 TB
    go_wp2_with fail
    refine bodyPost_ret (by simp [results, Tryd.results20, go_sem]; try rfl) rfl ?_
    exact unhide R
end Go.Proofs.YtiangegoglfpeaaDoor

/- Package fresh: Sets. -/
namespace Go.Proofs.YtiangegoglfpeaaDoor
set_option maxRecDepth 100000
open Go.RowKit Go.Maps Go.ChangeShapes Go.WideShapes Go.ChangeAt Go.Deep

theorem setP_ok (m : Md) (f : Fn) (S R : List Nat) : FOk (f.is.length + 2 * m.ca.length) (setP m f S R) := by
  unfold setP
  by_cases h0 : f.is.length = 0
  · rw [if_pos h0]; exact st0_ok _
  · rw [if_neg h0]
    have hb := fun n k (hk : k.Ok) => bh_ok m f S R n k hk
    have hfl : ∀ n, n < f.is.length + 2 * m.ca.length → ∀ x ∈ flG m f n, 0 ≤ x ∧ x < ((f.is.length + 2 * m.ca.length : Nat) : Int) := fun n _ x hx => flG_mem m f n x hx
    have s1ok := come_ok (st0_ok (f.is.length + 2 * m.ca.length)) Kn.zero_ok (show 0 < f.is.length + 2 * m.ca.length by omega)
    exact (run_ends hb hfl _ _ s1ok.1 (Nat.le_refl _)).1
theorem kAt_ok {N : Nat} {s : FSt} (h : FOk N s) (n : Nat) : (kAt s n).Ok := by
  unfold kAt
  rw [List.getD_eq_getElem?_getD]
  cases e : s.A[n]? with
  | none => exact Kn.zero_ok
  | some o => cases o with
    | none => exact Kn.zero_ok
    | some k => exact h.k n k e
def cntP (f : Fn) : Nat := (min (max f.s 0) 64).toNat
theorem cnt_le (f : Fn) : cntP f ≤ 64 := by unfold cntP; omega
theorem info_stl : (Tryd.prog.info? 54).map (fun i => (i.zero, i.size, i.bytes)) = some (some (.slice none 0 0), 1, 24) := by kernel_rfl
theorem mk_sts (n : Nat) (hn : n ≤ 10000000) (w : World) : (Instr.makeSlice 39 (.int .i64 (n : Int)) (.int .i64 (n : Int))).run Tryd.prog w = .ok (.slice (some ⟨w.heap.size, 0, none⟩) n n) (w.alloc (.cells (madeCells #[.slice none 0 0] n) 54)) := by
  obtain ⟨i, hi, hz, hs, hb⟩ := info_parts info_stl
  have := run_make (P := Tryd.prog) w 39 54 i (.slice none 0 0) Tryd.underlying39 hi hz .i64 .i64 (n : Int) (n : Int) (by omega) (by omega) (by rw [hb]; omega) (by omega)
  rw [this, hs, Int.toNat_natCast, Nat.mul_one]
  rfl
theorem row_kb {w w' : World} {rb n c : Nat} {l : List Stt} (h : RowAt elSt w (some ⟨rb, 0, none⟩) n c l) (e : w'.heap[rb]? = w.heap[rb]?) (hs : w.heap.size ≤ w'.heap.size) : RowAt elSt w' (some ⟨rb, 0, none⟩) n c l := by
  obtain ⟨h1, h2, h3, h4⟩ := h
  refine ⟨h1, h2, h3, ?_⟩
  rcases h4 with h4 | ⟨b, off, e0, hlt, hc⟩
  · exact Or.inl h4
  · cases e0
    refine Or.inr ⟨rb, 0, rfl, Nat.lt_of_lt_of_le hlt hs, fun i a hi => ?_⟩
    obtain ⟨cs, hcs, hv⟩ := hc i a hi
    exact ⟨cs, hcs, hv.kept e⟩
/-- What Sets answers: a row of rows, in new memory. -/
def SetsTo (w : World) (L cnt : Nat) (l : Nat → List Stt) (e : Ending) (w' : World) : Prop := ∃ (b : Nat) (rb : Nat → Nat), e = .returned (.slice (some ⟨b, 0, none⟩) L L) ∧ G w w' ∧ w.heap.size ≤ b ∧ ∀ j, j < L → w'.cell? ⟨b, j, none⟩ = some (.slice (some ⟨rb j, 0, none⟩) cnt cnt) ∧ RowAt elSt w' (some ⟨rb j, 0, none⟩) cnt cnt (l j)
/-- The rows in the making. -/
structure SeI (X : World) (L t cnt : Nat) (l : Nat → List Stt) (rb : Nat → Nat) (wr : World) : Prop where
  g : G X wr
  sz : X.heap.size < wr.heap.size
  fr : ∀ j, j < L → wr.frozen? ⟨X.heap.size, j, none⟩ = false
  nil : ∀ j, t ≤ j → j < L → wr.cell? ⟨X.heap.size, j, none⟩ = some (.slice none 0 0)
  done : ∀ j, j < t → wr.cell? ⟨X.heap.size, j, none⟩ = some (.slice (some ⟨rb j, 0, none⟩) cnt cnt) ∧ RowAt elSt wr (some ⟨rb j, 0, none⟩) cnt cnt (l j) ∧ X.heap.size < rb j
theorem sei_start (X : World) (L cnt : Nat) (l : Nat → List Stt) : SeI X L 0 cnt l (fun _ => 0) (X.alloc (.cells (madeCells #[.slice none 0 0] L) 54)) := by
  have h := made_all (.slice none 0 0) 54 _ X.heap.size L (heap_alloc_new X (.cells (madeCells #[.slice none 0 0] L) 54))
  exact ⟨G.alloc _ _, by rw [World.size_alloc]; omega, fun j hj => (h j hj).2, fun j _ hj => (h j hj).1, fun j hj => by omega⟩
theorem SeI.gg {X : World} {L t cnt : Nat} {l : Nat → List Stt} {rb : Nat → Nat} {wr z : World} (h : SeI X L t cnt l rb wr) (g : G wr z) : SeI X L t cnt l rb z := by
  refine ⟨h.g.trans g, Nat.lt_of_lt_of_le h.sz g.size, fun j hj => ?_, fun j h1 h2 => g.cell (h.nil j h1 h2), fun j hj => ?_⟩
  · rw [fro_of_block (x := ⟨X.heap.size, j, none⟩) (g.block _ h.sz)]; exact h.fr j hj
  · obtain ⟨h1, h2, h3⟩ := h.done j hj
    exact ⟨g.cell h1, h2.g okSt g, h3⟩
theorem SeI.put {X : World} {L t cnt : Nat} {l : Nat → List Stt} {rb : Nat → Nat} {wr : World} (h : SeI X L t cnt l rb wr) (ht : t < L) (b : Nat) (hb : X.heap.size < b) (hr : RowAt elSt wr (some ⟨b, 0, none⟩) cnt cnt (l t)) :
    SeI X L (t + 1) cnt l (fun j => if j = t then b else rb j) (wr.setCell ⟨X.heap.size, t, none⟩ (.slice (some ⟨b, 0, none⟩) cnt cnt)) := by
  have hk : ∀ q, q ≠ X.heap.size → (wr.setCell ⟨X.heap.size, t, none⟩ (.slice (some ⟨b, 0, none⟩) cnt cnt)).heap[q]? = wr.heap[q]? := fun q hq => Below.heap_setCell _ _ _ _ (by simpa using hq)
  refine ⟨G.set h.g _ _ _ (Nat.le_refl _), by rw [World.size_setCell]; exact h.sz, fun j hj => by rw [World.frozen?_setCell]; exact h.fr j hj, fun j h1 h2 => ?_, fun j hj => ?_⟩
  · rw [cell_other _ (Or.inr (show j ≠ t by omega))]; exact h.nil j (by omega) h2
  · by_cases e : j = t
    · subst e
      simp only [if_true]
      exact ⟨cell_same _ (h.nil j (Nat.le_refl _) ht), row_kb hr (hk b (by omega)) (by rw [World.size_setCell]; exact Nat.le_refl _), hb⟩
    · simp only [if_neg e]
      obtain ⟨h1, h2, h3⟩ := h.done j (by omega)
      exact ⟨by rw [cell_other _ (Or.inr e)]; exact h1, row_kb h2 (hk _ (by omega)) (by rw [World.size_setCell]; exact Nat.le_refl _), h3⟩
set_option maxHeartbeats 1000000 in
theorem fsets_any (w : World) (m : Md) (so : Option Addr) (sc : Nat) (go : Option Addr) (gc : Nat) (co : Option Addr) (cc : Nat) (ao : Option Addr) (ac : Nat) (fo : Option Addr) (fc : Nat) (f : Fn) (ko : Option Addr) (kc : Nat) (io : Option Addr) (ic : Nat) (mo : Option Addr) (mc : Nat) (h : ModR w m so sc go gc co cc ao ac fo fc) (hi : RowAt elIn w io f.is.length ic f.is) (ht : TabZ w) (hw : RowsAt w) (oi : ∀ x ∈ f.is, oIn x) (oc : ∀ c ∈ m.ca, oCa c) (hN : f.is.length + 2 * m.ca.length ≤ 1000000) :
    Calls Tryd.prog 10 #[agM m so sc go gc co cc ao ac fo fc, agF f ko kc io ic mo mc] w (SetsTo w f.is.length (cntP f) (fun j => sttL (kAt (setP m f (nodP 1 m.ca) (nodP 0 m.ca)) j) (cntP f))) := by
  obtain ⟨l, hl⟩ : ∃ l : Nat → List Stt, l = fun j => sttL (kAt (setP m f (nodP 1 m.ca) (nodP 0 m.ca)) j) (cntP f) := ⟨_, rfl⟩
  rw [← hl]
  obtain ⟨L, hL⟩ : ∃ L, L = f.is.length := ⟨_, rfl⟩
  obtain ⟨cnt, hcnt⟩ : ∃ cnt, cnt = cntP f := ⟨_, rfl⟩
  have hmm : min (max f.s 0) 64 = (cnt : Int) := by rw [hcnt]; unfold cntP; omega
  have hc64 : cnt ≤ 64 := by rw [hcnt]; exact cnt_le f
  unfold agM agF
  obtain ⟨W1, hW1⟩ : ∃ W1, W1 = (w.alloc (.cells #[.slice so m.sh.length sc, .slice go m.gl.length gc, .slice co m.co.length cc, .slice ao m.ca.length ac, .slice fo m.fn.length fc, .int .i64 m.main] 29)).alloc (.cells #[.int .i64 f.p, .int .i64 f.c, .int .i64 f.s, .int .i64 f.r, .slice ko f.ks.length kc, .slice io f.is.length ic, .slice mo f.ms.length mc] 33) := ⟨_, rfl⟩
  have gW1 : G w W1 := by rw [hW1]; exact ((G.refl w).more _).more _
  have C1 := hide (graphOf_any W1 m so sc go gc co cc ao ac fo fc f ko kc io ic mo mc (h.g gW1) (hi.g okIn gW1) (ht.g gW1) (hw.g gW1) oi oc hN)
  have okF := setP_ok m f (nodP 1 m.ca) (nodP 0 m.ca)
  have hlk : Hid (∀ j, l j = sttL (kAt (setP m f (nodP 1 m.ca) (nodP 0 m.ca)) j) cnt) := hide fun j => by rw [hl, hcnt]
  have hkk : Hid (∀ j, (kAt (setP m f (nodP 1 m.ca) (nodP 0 m.ca)) j).Ok) := hide fun j => kAt_ok okF j
  have c5 : Hid (∀ x, G W1 x → x.cell? ⟨w.heap.size + 1, 5, none⟩ = some (.slice io L ic)) := hide fun x g => g.cell (by rw [hW1, hL]; simp [go_sem])
  have hLN : L ≤ f.is.length + 2 * m.ca.length := by omega
  have hLb : L ≤ 1000000 := by omega
  rw [← hL, ← hcnt]
  unfold agM agF at C1
  rw [← hL] at hW1 C1
  have m0 : W1.cell? ⟨w.heap.size, 0, none⟩ = some (.slice so m.sh.length sc) := by rw [hW1]; simp [go_sem]
  have m1 : W1.cell? ⟨w.heap.size, 1, none⟩ = some (.slice go m.gl.length gc) := by rw [hW1]; simp [go_sem]
  have m2 : W1.cell? ⟨w.heap.size, 2, none⟩ = some (.slice co m.co.length cc) := by rw [hW1]; simp [go_sem]
  have m3 : W1.cell? ⟨w.heap.size, 3, none⟩ = some (.slice ao m.ca.length ac) := by rw [hW1]; simp [go_sem]
  have m4 : W1.cell? ⟨w.heap.size, 4, none⟩ = some (.slice fo m.fn.length fc) := by rw [hW1]; simp [go_sem]
  have m5 : W1.cell? ⟨w.heap.size, 5, none⟩ = some (.int .i64 m.main) := by rw [hW1]; simp [go_sem]
  have f0 : W1.cell? ⟨w.heap.size + 1, 0, none⟩ = some (.int .i64 f.p) := by rw [hW1]; simp [go_sem]
  have f1 : W1.cell? ⟨w.heap.size + 1, 1, none⟩ = some (.int .i64 f.c) := by rw [hW1]; simp [go_sem]
  have f2 : W1.cell? ⟨w.heap.size + 1, 2, none⟩ = some (.int .i64 f.s) := by rw [hW1]; simp [go_sem]
  have f3 : W1.cell? ⟨w.heap.size + 1, 3, none⟩ = some (.int .i64 f.r) := by rw [hW1]; simp [go_sem]
  have f4 : W1.cell? ⟨w.heap.size + 1, 4, none⟩ = some (.slice ko f.ks.length kc) := by rw [hW1]; simp [go_sem]
  have f5 : W1.cell? ⟨w.heap.size + 1, 5, none⟩ = some (.slice io L ic) := by rw [hW1]; simp [go_sem]
  have f6 : W1.cell? ⟨w.heap.size + 1, 6, none⟩ = some (.slice mo f.ms.length mc) := by rw [hW1]; simp [go_sem]
  replace gW1 := hide gW1
  have MK := hide (mk_sts L (by omega))
  have hN' := hide hN
  clear h hi ht hw oi oc hN okF hl
  replace hL := hide hL
  replace hcnt := hide hcnt
  replace hc64 := hide hc64
  replace hLN := hide hLN
  replace hLb := hide hLb
  go_enter Tryd.func10, Tryd.ntmps10
  go_upto_region 1 with fail
  rw [← hW1]
  clear hW1
  go_wp2_with fail
  refine (unhide C1).mono ?_
  rintro e w2 ⟨W0, B, gB, ab, wb, z, P, rfl, g0, st, GI0⟩
  have C2 := hide (settle_any st rfl (unhide hN') GI0)
  replace g0 := hide g0
  clear C1 st GI0 m0 m1 m2 m3 m4 m5 f0 f1 f2 f3 f4 f5 f6
  go_wp2_with fail
  refine (unhide C2).mono ?_
  rintro e w3 ⟨rfl, P', qv', GI3⟩
  have g13 : G W1 w3 := (unhide g0).trans GI3.g
  have c53 := unhide c5 w3 g13
  have KA : Hid (∀ (t : Nat) x, t < L → G w3 x → Calls Tryd.prog 22 #[.pointer (some ⟨gB, 0, none⟩), .int .i64 (t : Int)] x fun e w' => e = .returned (.agg (knC (kAt (setP m f (nodP 1 m.ca) (nodP 0 m.ca)) t)).toArray) ∧ G x w') := hide fun t x ht gx => knownAt_any (GI3.keep gx) t (Nat.lt_of_lt_of_le ht (unhide hLN))
  have mk := unhide MK w3
  have ST := hide (sei_start w3 L cnt l)
  have GG := hide ((unhide gW1).trans g13)
  clear C2 GI3 g0 g13 c5 MK
  go_wp2_with fail
  go_loopw [25] (fun i wr => ∃ (t : Nat) (rb : Nat → Nat), t ≤ L ∧ i = .int .i64 t ∧ Hid (SeI w3 L t cnt l rb wr)) (fun i _ => L - (intOf i).toNat)
  case atStart => exact ⟨0, _, Nat.zero_le _, rfl, ST⟩
  case round =>
    obtain ⟨t, rb, ht, rfl, HS⟩ := hrel
    clear ST mk c53
    by_cases hlt : t < L
    · have htI : (t : Int) < (L : Int) := by omega
      have ht0 : (0 : Int) ≤ (t : Int) := by omega
      have wt : wrap64 ((t : Int) + 1) = ((t + 1 : Nat) : Int) := by have := unhide hLb; unfold wrap64; omega
      have CK := hide (unhide KA t wr hlt (unhide HS).g)
      have LK := hide (unhide hlk t)
      have OK := unhide hkk t
      generalize kAt (setP m f (nodP 1 m.ca) (nodP 0 m.ca)) t = k at CK LK OK
      go_wp2_with fail
      refine (unhide CK).mono ?_
      rintro e w4 ⟨rfl, g4⟩
      have S4 := hide ((unhide HS).gg g4)
      clear CK HS g4
      go_wp2_with (first
        | (refine wpl_alk rfl rfl ?_; intro w5 g5 k5 z5; replace g5 := hide g5; replace k5 := hide k5; replace z5 := hide z5)
        | (refine wpl_stk rfl (.tmp 9) (.tmp 30) rfl w4.heap.size Kn.zero k rfl rfl (unhide k5) OK ?_; intro w6 k6 t6 z6; replace k6 := hide k6; replace t6 := hide t6; replace z6 := hide z6))
      have g46 : G w4 w6 := new_g (unhide g5) (unhide t6)
      have S6 := hide ((unhide S4).gg g46)
      have CS := hide (states_any (unhide k6) cnt (unhide hc64))
      clear g5 k5 z5 t6 z6 k6 g46 S4
      refine (unhide CS).mono ?_
      rintro e w7 ⟨b, rfl, hb, hr, g7⟩
      have hsl : (sttL k cnt).length = cnt := by simp [sttL]
      rw [hsl, ← unhide LK] at hr
      rw [hsl]
      have S7 := (unhide S6).gg g7
      have hbX : w3.heap.size < b := Nat.lt_of_lt_of_le (unhide S6).sz hb
      have n7 := S7.nil t (Nat.le_refl _) hlt
      have r7 := S7.fr t hlt
      have S8 := hide (S7.put hlt b hbX hr)
      clear CS S6 S7 hr hb g7 hsl LK OK hbX
      go_wp2_with fail
      go_roundw
      case rel => exact ⟨t + 1, _, by omega, by rw [wt], S8⟩
      case measure => rw [wt]; exact dec_t L t hlt
    · obtain rfl : t = L := by omega
      have hd : ¬ ((t : Int) < (t : Int)) := by omega
      have R : Hid (SetsTo w t cnt l (.returned (.slice (some ⟨w3.heap.size, 0, none⟩) t t)) wr) := hide ⟨w3.heap.size, rb, rfl, (unhide GG).trans (unhide HS).g, (unhide GG).size, fun j hj => ⟨((unhide HS).done j hj).1, ((unhide HS).done j hj).2.1⟩⟩
      clear HS KA
      go_wp2_with fail
      refine bodyPost_ret (by simp [results, Tryd.results10, go_sem]; try rfl) rfl ?_
      exact unhide R
end Go.Proofs.YtiangegoglfpeaaDoor
