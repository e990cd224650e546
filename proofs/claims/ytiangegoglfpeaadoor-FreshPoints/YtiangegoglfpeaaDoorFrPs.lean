/- Package fresh: what is known goes over an instruction. -/
import Derived.Test.YtiangegoglfpeaaDoorFrMeet
import Derived.Test.YtiangegoglfpeaaDoorLiveReads2
import Derived.Test.YtiangegoglfpeaaDoorLiveWrites
namespace Go.Proofs.YtiangegoglfpeaaDoor
set_option maxRecDepth 100000
open Go.RowKit Go.Maps Go.ChangeShapes Go.WideShapes Go.ChangeAt Go.Deep

/-- What is known behind an instruction (a select's own slots aside). -/
def Kn.point (k : Kn) (op : Int) : Kn := if (rwOf op).pt then ⟨0, k.o, k.ws⟩ else k
def Kn.pass (k0 : Kn) (m : Md) (i : In) : Kn :=
  if i.op = 25 ∨ i.op = 26 ∨ i.op = 37 then ⟨((k0.point i.op).begin i.a true).y, ((k0.point i.op).begin i.a true).o ||| bitP i.a, ((k0.point i.op).begin i.a true).ws⟩ else
  if i.op = 36 then ((k0.point i.op).begin i.a true).hand (mskP (rdP m i)) else
  if i.op = 1 then ((k0.point i.op).begin i.a ((k0.point i.op).y &&& bitP i.b != 0)).hand (bitP i.b) else
  if i.op = 28 ∨ i.op = 29 ∨ i.op = 31 ∨ i.op = 32 then ((k0.point i.op).write i.a (fldP i)).hand (bitP i.c) else
  if i.op = 38 then (k0.point i.op).hand (bitP i.b) else
  if i.op = 35 ∨ i.op = 20 ∨ i.op = 21 ∨ i.op = 22 ∨ i.op = 23 ∨ i.op = 24 then ((k0.point i.op).hand (mskP (rdP m i))).forget (mskP (wrP i)) else
  (k0.point i.op).forget (mskP (wrP i))
theorem Kn.Ok.point {k : Kn} (h : k.Ok) (op : Int) : (k.point op).Ok := by
  unfold Kn.point
  split
  · exact ⟨by show (0 : Nat) < _; decide, h.o, h.n, h.w⟩
  · exact h
theorem Kn.Ok.pass {k : Kn} (h : k.Ok) (m : Md) (i : In) : (k.pass m i).Ok := by
  have hp := h.point i.op
  unfold Kn.pass
  split
  · have := hp.begin i.a true
    exact ⟨this.y, or_lt this.o (bitP_lt _), this.n, this.w⟩
  · split
    · exact (hp.begin _ _).hand _
    · split
      · exact (hp.begin _ _).hand _
      · split
        · exact (hp.write _ _ (fld_lt i)).hand _
        · split
          · exact hp.hand _
          · split
            · exact (hp.hand _).forget _
            · exact hp.forget _
theorem runP_oi (a n : Int) : (∀ s ∈ runP a n, oI s) ∧ (runP a n).length ≤ 64 := by
  unfold runP
  split
  · exact ⟨fun s hs => by simp at hs, by simp⟩
  · rename_i h
    refine ⟨fun s hs => ?_, by rw [runN_len]; omega⟩
    obtain ⟨t, _, rfl⟩ := List.mem_map.1 hs
    unfold oI wrap64
    omega
theorem rd_oi (m : Md) (i : In) (h : oIn i) (h41 : i.op ≠ 41) : (∀ s ∈ rdP m i, oI s) ∧ (rdP m i).length ≤ 65 := by
  obtain ⟨_, ha, hb, hc, hd⟩ := h
  unfold rdP
  have one : ∀ x : Int, oI x → (∀ s ∈ [x], oI s) ∧ ([x] : List Int).length ≤ 65 := fun x hx => ⟨fun s hs => by simp at hs; subst hs; exact hx, by simp⟩
  have two : ∀ x y : Int, oI x → oI y → (∀ s ∈ [x, y], oI s) ∧ ([x, y] : List Int).length ≤ 65 := fun x y hx hy => ⟨fun s hs => by simp at hs; rcases hs with rfl | rfl <;> assumption, by simp⟩
  have rn := runP_oi
  have ro : ∀ a n : Int, (∀ s ∈ runP a n, oI s) ∧ (runP a n).length ≤ 65 := fun a n => ⟨(rn a n).1, Nat.le_trans (rn a n).2 (by decide)⟩
  have rc : ∀ x a n : Int, oI x → (∀ s ∈ x :: runP a n, oI s) ∧ (x :: runP a n).length ≤ 65 := fun x a n hx => ⟨fun s hs => by
    rcases List.mem_cons.1 hs with rfl | hs
    · exact hx
    · exact (rn _ _).1 s hs, by have := (rn a n).2; simp; omega⟩
  by_cases q0 : i.op ∈ ([1, 17, 27, 33, 35, 39] : List Int)
  · rw [if_pos q0]; exact one _ hb
  rw [if_neg q0]
  by_cases q1 : i.op ∈ ([3, 4, 5, 6, 7, 8, 9, 10, 11, 12, 13, 14, 15, 16, 30] : List Int)
  · rw [if_pos q1]; exact two _ _ hb hc
  rw [if_neg q1]
  by_cases q2 : i.op ∈ ([19, 40, 42] : List Int)
  · rw [if_pos q2]; exact one _ ha
  rw [if_neg q2]
  by_cases q3 : i.op ∈ ([26, 37] : List Int)
  · rw [if_pos q3]; exact one _ hc
  rw [if_neg q3]
  by_cases q4 : i.op ∈ ([28, 29] : List Int)
  · rw [if_pos q4]; exact two _ _ ha hc
  rw [if_neg q4]
  by_cases q5 : i.op ∈ ([31, 32] : List Int)
  · rw [if_pos q5]; exact ⟨fun s hs => by simp at hs; rcases hs with rfl | rfl | rfl <;> assumption, by simp⟩
  rw [if_neg q5]
  by_cases q6 : i.op ∈ ([38] : List Int)
  · rw [if_pos q6]; exact two _ _ ha hb
  rw [if_neg q6]
  by_cases q7 : i.op = 22
  · rw [if_pos q7]; exact ⟨fun s hs => (one _ ha).1 s (List.mem_filter.1 hs).1, Nat.le_trans (List.length_filter_le _ _) (by simp)⟩
  rw [if_neg q7]
  by_cases q8 : i.op = 20
  · rw [if_pos q8]; exact ro _ _
  rw [if_neg q8]
  by_cases q9 : i.op = 21
  · rw [if_pos q9]; exact rc _ _ _ hb
  rw [if_neg q9]
  by_cases q10 : i.op = 23
  · rw [if_pos q10]; exact ro _ _
  rw [if_neg q10]
  by_cases q11 : i.op = 24
  · rw [if_pos q11]; exact rc _ _ _ ha
  rw [if_neg q11]
  by_cases q12 : i.op = 36
  · rw [if_pos q12]; exact ro _ _
  rw [if_neg q12]
  rw [if_neg h41]
  exact ⟨fun s hs => by simp at hs, by simp⟩
theorem wr_oi (i : In) (h : oIn i) : (∀ s ∈ wrP i, oI s) ∧ (wrP i).length ≤ 65 := by
  obtain ⟨_, ha, hb, hc, hd⟩ := h
  unfold wrP
  split
  · exact ⟨fun s hs => by simp at hs; subst hs; exact ha, by simp⟩
  split
  · exact ⟨fun s hs => by have := (List.mem_filter.1 hs).1; simp at this; subst this; exact ha, Nat.le_trans (List.length_filter_le _ _) (by simp)⟩
  split
  · exact ⟨fun s hs => by have := (List.mem_filter.1 hs).1; simp at this; rcases this with rfl | rfl <;> assumption, Nat.le_trans (List.length_filter_le _ _) (by simp)⟩
  · exact ⟨fun s hs => by simp at hs, by simp⟩

/-- What a walk of pass may lean on. -/
structure PsC (W0 w : World) (b : Nat) : Prop where
  g : G W0 w
  lo : W0.heap.size ≤ b
  t : TabZ W0
  r : RowsAt W0
  two : 2 ≤ b
abbrev PS (X x : World) (b : Nat) (k : Kn) : Prop := KnAt x b k ∧ TrD X x (· = b)
theorem PsC.tr {W0 X x : World} {b : Nat} (h : PsC W0 X b) (t : TrD X x (· = b)) : G W0 x := ⟨t.os.trans h.g.os, t.tape.trans h.g.tape, t.output.trans h.g.output, Nat.le_trans h.g.size t.size, fun k hk => (t.block k (Nat.lt_of_lt_of_le hk h.g.size) (by have := h.lo; omega)).trans (h.g.block k hk)⟩
theorem ps_then {X x y : World} {b : Nat} {k k' : Kn} (h : PS X x b k) (hy : KnAt y b k' ∧ TrD x y (· = b)) : PS X y b k' := ⟨hy.1, h.2.trans hy.2⟩
theorem ps_g {X x y : World} {b : Nat} {k : Kn} (h : PS X x b k) (g : G x y) : PS X y b k := kt_g h g
theorem ps_begin {W0 X x : World} {b : Nat} {k : Kn} (h : PsC W0 X b) (s : PS X x b k) (a : Int) (yg : Bool) (ha : oI a) : Calls Tryd.prog 61 #[.pointer (some ⟨b, 0, none⟩), .int .i64 a, .bool yg] x fun e w' => e = .returned (.tuple #[]) ∧ PS X w' b (k.begin a yg) :=
  (begin_any s.1 a yg ha (h.t.g (h.tr s.2)) (by have := h.two; omega)).mono fun _ _ r => ⟨r.1, ps_then s r.2⟩
theorem ps_forget {W0 X x : World} {b : Nat} {k : Kn} (h : PsC W0 X b) (s : PS X x b k) (u : Nat) (hu : u < 18446744073709551616) : Calls Tryd.prog 54 #[.pointer (some ⟨b, 0, none⟩), .int .u64 (u : Int)] x fun e w' => e = .returned (.tuple #[]) ∧ PS X w' b (k.forget u) :=
  (forget_any s.1 u hu (h.t.g (h.tr s.2)) (by have := h.two; omega)).mono fun _ _ r => ⟨r.1, ps_then s r.2⟩
theorem ps_hand {X x : World} {b : Nat} {k : Kn} (s : PS X x b k) (u : Nat) (hu : u < 18446744073709551616) : Calls Tryd.prog 53 #[.pointer (some ⟨b, 0, none⟩), .int .u64 (u : Int)] x fun e w' => e = .returned (.tuple #[]) ∧ PS X w' b (k.hand u) :=
  (hand_any s.1 u hu).mono fun _ _ r => ⟨r.1, ps_then s r.2⟩
theorem ps_write {X x : World} {b : Nat} {k : Kn} (s : PS X x b k) (a : Int) (u : Nat) (ha : oI a) (hu : u < 18446744073709551616) : Calls Tryd.prog 64 #[.pointer (some ⟨b, 0, none⟩), .int .i64 a, .int .u64 (u : Int)] x fun e w' => e = .returned (.tuple #[]) ∧ PS X w' b (k.write a u) :=
  (write_any s.1 a u ha hu).mono fun _ _ r => ⟨r.1, ps_then s r.2⟩
theorem boxes (w : World) (C1 C2 : Array Value) (t1 t2 : TypeId) (x : World) (g : G ((w.alloc (.cells C1 t1)).alloc (.cells C2 t2)) x) : (∀ (i : Nat) (v : Value), C1[i]? = some v → x.cell? ⟨w.heap.size, i, none⟩ = some v) ∧ (∀ (i : Nat) (v : Value), C2[i]? = some v → x.cell? ⟨w.heap.size + 1, i, none⟩ = some v) := by
  have e1 : (w.alloc (.cells C1 t1)).heap.size = w.heap.size + 1 := by rw [World.size_alloc]
  refine ⟨fun i v hv => g.cell ((G.alloc _ _).cell ?_), fun i v hv => g.cell ?_⟩
  · rw [cell_of_row _ _ _ _ _ _ (heap_alloc_new w _)]; exact hv
  · rw [← e1, cell_of_row _ _ _ _ _ _ (heap_alloc_new _ _)]; exact hv

end Go.Proofs.YtiangegoglfpeaaDoor
