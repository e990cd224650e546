/- strings.Builder, with the row that it writes into named: what a write keeps. -/
import Derived.Test.YthbpmekfgkagiaaRows
import Derived.Test.YthbpmekfgkagiaaHidT
import Derived.WalkKit
import Derived.WalkSpells
import Derived.WalkLawsBesides
import Derived.Deep.QuietTactic
import Derived.BigQuiet
import Derived.Handy
import Derived.OwnWalk
import Derived.Maps.AppendAt
import Derived.Deep.AppendSrc
import Derived.Deep.DeepAppendRoom
import Derived.Deep.Draws
import Derived.Deep.RegionLaw
import Derived.Deep.RegionWith
import Derived.RegionTactic
import Derived.BigRegion
import Derived.ChangeAlike
import Derived.Below
import Derived.Carry
import Derived.OpenShut
import Derived.ProofKit
import Derived.Laws.OwnMore
import Derived.Laws.Externs
import Derived.Lib.SliceRun
import Derived.Lib.Strings
import Derived.Lib.Builder
import Derived.Lib.AppendStr
import Derived.Lib.UnsafeStr
import Derived.Deep.Strs
namespace Go.Proofs.Ythbpmekfgkagiaa
set_option maxRecDepth 100000
open Go.RowKit Go.Maps Go.ChangeShapes Go.WideShapes Go.ChangeAt Go.Deep

/-- What is kept while memory is made. -/
abbrev G (w w' : World) : Prop := Below w.heap.size w w'
theorem G.refl (w : World) : G w w := Below.refl _ w
theorem G.alloc (w : World) (o : Obj) : G w (w.alloc o) := (Below.refl _ _).alloc (Nat.le_refl _) o
theorem G.trans {a b c : World} (h : G a b) (k : G b c) : G a c := Below.trans h (Below.mono k h.size)
theorem G.more {a b : World} (h : G a b) (o : Obj) : G a (b.alloc o) := Below.alloc h h.size o
theorem G.drew {a b : World} (h : G a b) : G a b.drew := ⟨h.os, h.tape, h.output, h.size, h.block⟩
theorem G.cell {w w' : World} (g : G w w') {x : Addr} {v : Value} (h : w.cell? x = some v) : w'.cell? x = some v :=
  (World.cell?_of_block (g.block _ (World.block_lt_of_cell? w _ h))).trans h
theorem G.set {w W : World} (h : G w W) (b i : Nat) (v : Value) (hb : w.heap.size ≤ b) : G w (W.setCell ⟨b, i, none⟩ v) :=
  ⟨h.os, h.tape, h.output, by rw [World.size_setCell]; exact h.size, fun k hk => (Below.heap_setCell _ _ _ _ (by show k ≠ b; omega)).trans (h.block k hk)⟩
/-- All stands but the builder's own block and the row that it writes into. -/
structure Kb (b : Nat) (v : Value) (w w' : World) : Prop where
  os : w'.os = w.os
  tape : w'.tape = w.tape
  output : w'.output = w.output
  size : w.heap.size ≤ w'.heap.size
  block : ∀ k, k < w.heap.size → k ≠ b → v.ownBlock ≠ some k → w'.heap[k]? = w.heap[k]?
/-- The builder at b holds bs, in the row v. -/
def BdP (b : Nat) (p v : Value) (bs : List Value) (w : World) : Prop := w.heap[b]? = some (.cells #[p, v] 42 (0, 0)) ∧ w.ownsRow 0 5 1 v bs.length bs ∧ v.ownBlock ≠ some b ∧ (bs = [] → v = .slice none 0 0)
def Bd (b : Nat) (v : Value) (bs : List Value) (w : World) : Prop := BdP b (.pointer none) v bs w ∨ BdP b (.pointer (some ⟨b, 0, none⟩)) v bs w
/-- The row that is written into is the old one, or new. -/
def NewRow (w : World) (v v' : Value) : Prop := v'.ownBlock = v.ownBlock ∨ ∃ k, v'.ownBlock = some k ∧ w.heap.size ≤ k
theorem NewRow.trans {w w1 : World} {v v1 v2 : Value} (h : NewRow w v v1) (k : NewRow w1 v1 v2) (hs : w.heap.size ≤ w1.heap.size) : NewRow w v v2 := by
  rcases k with k | ⟨q, k1, k2⟩
  · rcases h with h | ⟨q, h1, h2⟩
    · exact Or.inl (k.trans h)
    · exact Or.inr ⟨q, k.trans h1, h2⟩
  · exact Or.inr ⟨q, k1, Nat.le_trans hs k2⟩
theorem Kb.trans {b : Nat} {v v1 : Value} {w w1 w2 : World} (h : Kb b v w w1) (n : NewRow w v v1) (k : Kb b v1 w1 w2) : Kb b v w w2 :=
  ⟨k.os.trans h.os, k.tape.trans h.tape, k.output.trans h.output, Nat.le_trans h.size k.size, fun q hq hb hv => (k.block q (Nat.lt_of_lt_of_le hq h.size) hb (fun e => by
    rcases n with n | ⟨r, n1, n2⟩
    · exact hv (n.symm.trans e)
    · rw [n1] at e; cases e; omega)).trans (h.block q hq hb hv)⟩
theorem Kb.of_g {b : Nat} {v : Value} {w w' : World} (g : G w w') : Kb b v w w' := ⟨g.os, g.tape, g.output, g.size, fun k hk _ _ => g.block k hk⟩
theorem BdP.lt {b : Nat} {p v : Value} {bs : List Value} {w : World} (h : BdP b p v bs w) : b < w.heap.size := by
  rcases Nat.lt_or_ge b w.heap.size with h' | h'
  · exact h'
  · have := h.1
    rw [Array.getElem?_eq_none h'] at this; cases this
theorem Bd.lt {b : Nat} {v : Value} {bs : List Value} {w : World} (h : Bd b v bs w) : b < w.heap.size := by
  rcases h with h | h
  · exact h.lt
  · exact h.lt
theorem own_ltB {w : World} {v : Value} {n : Nat} {xs : List Value} {e : TypeId} (h : w.ownsRow 0 e 1 v n xs) (k : Nat) (hk : v.ownBlock = some k) : k < w.heap.size := by
  rcases h.2 with ⟨e1, _⟩ | ⟨g, cap, cur, e1, _, e3, _⟩
  · rw [e1] at hk; cases hk
  · rw [e1] at hk
    have : g = k := by simpa [Value.ownBlock] using hk
    subst this
    rcases Nat.lt_or_ge g w.heap.size with hh | hh
    · exact hh
    · rw [Array.getElem?_eq_none hh] at e3; cases e3
theorem own_keepB {w w' : World} {v : Value} {n : Nat} {xs : List Value} {e : TypeId} (h : w.ownsRow 0 e 1 v n xs) (g : ∀ k, v.ownBlock = some k → w'.heap[k]? = w.heap[k]?) : w'.ownsRow 0 e 1 v n xs := by
  rcases h.2 with h0 | ⟨q, cap, cur, e1, e2, e3, e4⟩
  · exact ⟨h.1, Or.inl h0⟩
  · refine ⟨h.1, Or.inr ⟨q, cap, cur, e1, e2, ?_, e4⟩⟩
    rw [g q (by rw [e1]; rfl)]; exact e3
theorem BdP.keep {b : Nat} {p v : Value} {bs : List Value} {w w' : World} (h : BdP b p v bs w) (e : w'.heap[b]? = w.heap[b]?) (g : ∀ k, v.ownBlock = some k → w'.heap[k]? = w.heap[k]?) : BdP b p v bs w' := ⟨e.trans h.1, own_keepB h.2.1 g, h.2.2⟩
/-- What is not the builder's is turned. -/
theorem Bd.keep {b : Nat} {v : Value} {bs : List Value} {w w' : World} (h : Bd b v bs w) (e : w'.heap[b]? = w.heap[b]?) (g : ∀ k, v.ownBlock = some k → w'.heap[k]? = w.heap[k]?) : Bd b v bs w' := by
  rcases h with h | h
  · exact Or.inl (h.keep e g)
  · exact Or.inr (h.keep e g)
theorem Bd.g {b : Nat} {v : Value} {bs : List Value} {w w' : World} (h : Bd b v bs w) (g : G w w') : Bd b v bs w' := by
  refine h.keep (g.block b h.lt) (fun k hk => g.block k ?_)
  rcases h with h | h
  · exact own_ltB h.2.1 k hk
  · exact own_ltB h.2.1 k hk
theorem Bd.row {b : Nat} {v : Value} {bs : List Value} {w : World} (h : Bd b v bs w) (k : Nat) (hk : v.ownBlock = some k) : k < w.heap.size ∧ k ≠ b := by
  rcases h with h | h
  · exact ⟨own_ltB h.2.1 k hk, fun e => h.2.2.1 (by rw [hk, e])⟩
  · exact ⟨own_ltB h.2.1 k hk, fun e => h.2.2.1 (by rw [hk, e])⟩

theorem info_bd : (Try.prog.info? 42).map (·.size) = some 2 := by kernel_rfl
theorem lies_bd : liesAt Try.prog Try.prog.depth 42 (2 / Try.prog.cellsOf 42) 0 42 1 = true := by kernel_rfl
theorem info_byte : (Try.prog.info? 5).map (fun i => (i.zero, i.size, i.bytes)) = some (some (.int .u8 0), 1, 1) := by kernel_rfl
theorem cells_byte : Try.prog.cellsOf 5 = 1 := by kernel_rfl
set_option maxHeartbeats 1000000 in
theorem check_used (b : Nat) (w : World) (h0 : w.cell? ⟨b, 0, none⟩ = some (.pointer (some ⟨b, 0, none⟩))) :
    Calls Try.prog 51 #[.pointer (some ⟨b, 0, none⟩)] w fun e w' => e = .returned (.tuple #[]) ∧ w' = w := by
  obtain ⟨j, hj, _⟩ := Option.map_eq_some_iff.1 info_bd
  have hn := Lib.run_neq_ptr_same (P := Try.prog) w (tp := 39) ⟨b, 0, none⟩ Try.underlying39 hj
  go_enter Try.func51, Try.ntmps51
  go_wp2_with fail
  go_end0
  exact ⟨rfl, rfl⟩
set_option maxHeartbeats 1000000 in
theorem check_fresh (b : Nat) (w : World) (h0 : w.cell? ⟨b, 0, none⟩ = some (.pointer none)) (hsh : w.shape? b = some (42, 2)) (hfz : w.frozen? ⟨b, 0, none⟩ = false) :
    Calls Try.prog 51 #[.pointer (some ⟨b, 0, none⟩)] w fun e w' => e = .returned (.tuple #[]) ∧ w' = w.setCell ⟨b, 0, none⟩ (.pointer (some ⟨b, 0, none⟩)) := by
  obtain ⟨j, hj, hjs⟩ := Option.map_eq_some_iff.1 info_bd
  have hn : ∀ y : World, (binOp .neq 39 (.pointer (some ⟨b, 0, none⟩)) (.pointer (some ⟨b, 0, none⟩))).run Try.prog y = .ok (.bool false) y := fun y => Lib.run_neq_ptr_same (P := Try.prog) y (tp := 39) ⟨b, 0, none⟩ Try.underlying39 hj
  have hu := Lib.run_to_unsafe (P := Try.prog) w ⟨b, 0, none⟩ Try.underlying39 Try.underlying79 hj (by rw [hjs]; decide) hsh (Nat.zero_lt_succ 1)
  have hf := Lib.run_from_unsafe (P := Try.prog) w ⟨b, 0, none⟩ Try.underlying79 Try.underlying39 hj hsh lies_bd
  go_enter Try.func51, Try.ntmps51
  have hx : (callFunc 58 #[.pointer (some ⟨b, 0, none⟩)]).run Try.prog w = .ok (.value (.pointer (some ⟨b, 0, none⟩))) w := by
    rw [run_callFunc_extern (f := 58) (fn := Try.f58) (by kernel_rfl) (by kernel_rfl) (by kernel_rfl) (by kernel_rfl) (e := Extern.AbiNoEscape.same) (by kernel_rfl)]
    rfl
  go_wp2_with fail
  go_end0
  exact ⟨rfl, rfl⟩
theorem BdP.cell0 {b : Nat} {p v : Value} {bs : List Value} {w : World} (h : BdP b p v bs w) : w.cell? ⟨b, 0, none⟩ = some p := by rw [Lib.cell_of_heap h.1]; rfl
theorem BdP.cell1 {b : Nat} {p v : Value} {bs : List Value} {w : World} (h : BdP b p v bs w) : w.cell? ⟨b, 1, none⟩ = some v := by rw [Lib.cell_of_heap h.1]; rfl
theorem BdP.shape {b : Nat} {p v : Value} {bs : List Value} {w : World} (h : BdP b p v bs w) : w.shape? b = some (42, 2) := by simp [World.shape?, h.1]
theorem BdP.fro {b : Nat} {p v : Value} {bs : List Value} {w : World} (h : BdP b p v bs w) (j : Nat) : w.frozen? ⟨b, j, none⟩ = false := Lib.frozen_of_heap h.1 j
theorem kb_set (b j : Nat) (v u : Value) (w : World) : Kb b v w (w.setCell ⟨b, j, none⟩ u) :=
  ⟨rfl, rfl, rfl, by rw [World.size_setCell]; exact Nat.le_refl _, fun k _ hb _ => Below.heap_setCell _ _ _ _ (by show k ≠ b; exact hb)⟩
/-- Behind the check the builder knows its own address. -/
theorem check_any (b : Nat) (v : Value) (bs : List Value) (w : World) (h : Bd b v bs w) :
    Calls Try.prog 51 #[.pointer (some ⟨b, 0, none⟩)] w fun e w' => e = .returned (.tuple #[]) ∧ BdP b (.pointer (some ⟨b, 0, none⟩)) v bs w' ∧ Kb b v w w' := by
  rcases h with h | h
  · refine (check_fresh b w h.cell0 h.shape (h.fro 0)).mono ?_
    rintro e w' ⟨rfl, rfl⟩
    refine ⟨rfl, ⟨?_, own_keepB h.2.1 (fun k hk => Below.heap_setCell _ _ _ _ (by show k ≠ b; exact fun e => h.2.2.1 (by rw [hk, e]))), h.2.2⟩, kb_set b 0 v _ w⟩
    simp [World.setCell, Array.getElem?_modify, h.1]
  · refine (check_used b w h.cell0).mono ?_
    rintro e w' ⟨rfl, rfl⟩
    exact ⟨rfl, h, ⟨rfl, rfl, rfl, Nat.le_refl _, fun _ _ _ _ => rfl⟩⟩
/-- A text is appended to an owned row: the row is the old one, or new. -/
theorem own_str {w : World} {v : Value} {n : Nat} {xs : List Value} (hown : w.ownsRow 0 5 1 v n xs) (s : ByteArray) (hn : n + s.size ≤ 140737488355328) :
    ∃ v' w', (Builtin.append_ #[40, 9] 40 #[v, .string s]).run Try.prog w = .ok v' w' ∧ w'.ownsRow 0 5 1 v' (n + s.size) (xs ++ Lib.strCells s) ∧ w.grownBy w' v.ownBlock ∧ (v'.ownBlock = v.ownBlock ∨ v'.ownBlock = some w.heap.size) ∧ (v = .slice none 0 0 ∧ s.size = 0 → v' = .slice none 0 0) := by
  obtain ⟨i, hi, hz, hs, hb⟩ := info_parts info_byte
  obtain ⟨v', w', hr, h2, h3, h4⟩ := Lib.run_append_own_string (P := Try.prog) w 0 40 9 40 5 i Try.underlying40 Try.underlying9 hi hz hs hb v n xs hown s (by unfold maxLen; omega) hn (Nat.zero_le _)
  refine ⟨v', w', hr, h2, h3, ?_, h4.2⟩
  have hxl : xs.length = n := by simpa using hown.1
  rcases hown.2 with ⟨rfl, rfl⟩ | ⟨g, cap, cur, rfl, hbg, hg, hnc, hcm, hcs, htake⟩
  · by_cases hm : s.size = 0
    · rw [h4.2 ⟨rfl, hm⟩]; exact Or.inl rfl
    · have hx := run_append_nil_string (P := Try.prog) w 40 9 40 5 i (.int .u8 0) Try.underlying40 Try.underlying9 hi hz s (by omega) (by omega) (by rw [hb]; omega)
      rw [hx] at hr
      injection hr with e1 _
      rw [← e1]; exact Or.inr rfl
  · by_cases hroom : n + s.size ≤ cap
    · have hx := Lib.run_append_room_string (P := Try.prog) w 40 9 40 5 i Try.underlying40 Try.underlying9 hi hs g n cap cur hg s hroom (by omega)
      rw [hx] at hr
      injection hr with e1 _
      rw [← e1]; exact Or.inl rfl
    · have hx := Lib.run_append_grow_string (P := Try.prog) w 40 9 40 5 i (.int .u8 0) Try.underlying40 Try.underlying9 hi hz ⟨g, 0, none⟩ n cap xs (by rw [hs]; simpa using hxl) (hown.cells (g := g) rfl) s (by omega) (by omega) (by rw [hb]; exact growslice_fits (by omega) (by omega))
      rw [hx] at hr
      injection hr with e1 _
      rw [← e1]; exact Or.inr rfl
theorem wpl_apS {ops : Array Oper} {rest : List Oper} {o : Oper} {a : Act} {w : World} {Q : Exit → Act → World → Prop} (hgd : o.guard = none) (s x : Operand) (t u : TypeId) (ho : o.op = .call { callee := .builtin .append, args := #[s, x], argTypes := #[t, u] })
    (vs vx : Value) (hs : a.eval s = vs) (hx : a.eval x = vx) (v' : Value) (w' : World) (hrun : (Builtin.append_ #[t, u] o.type #[vs, vx]).run Try.prog w = .ok v' w') (h : wpList Try.prog ops Q rest (a.put o.dst v') w') : wpList Try.prog ops Q (o :: rest) a w := by
  refine wpList_plain hgd fun K hK => ?_
  unfold Oper.wp execOp
  simp only [ho, resolve, invoke, builtin, Sem.run_bind, Sem.run_pure, Result.andThen_ok, List.map_toArray, List.map_cons, List.map_nil, hs, hx, hrun]
  exact hK _ _ h
theorem own_sl {w : World} {v : Value} {n : Nat} {xs : List Value} {e : TypeId} (h : w.ownsRow 0 e 1 v n xs) : ∃ ao n' cap, v = .slice ao n' cap := by
  rcases h.2 with ⟨hv, _⟩ | ⟨g, cap, cur, hv, _⟩
  · exact ⟨_, _, _, hv⟩
  · exact ⟨_, _, _, hv⟩
/-- Behind an append, and the store of what it answered. -/
theorem bd_put {b : Nat} {v v' : Value} {bs xs : List Value} {w w2 : World} {n : Nat} (hnil : bs ++ xs = [] → v' = .slice none 0 0) (h : BdP b (.pointer (some ⟨b, 0, none⟩)) v bs w) (hn : n = (bs ++ xs).length) (h2 : w2.ownsRow 0 5 1 v' n (bs ++ xs)) (gr : w.grownBy w2 v.ownBlock) (nr : v'.ownBlock = v.ownBlock ∨ ∃ k, v'.ownBlock = some k ∧ w.heap.size ≤ k) :
    Bd b v' (bs ++ xs) (w2.setCell ⟨b, 1, none⟩ v') ∧ Kb b v w (w2.setCell ⟨b, 1, none⟩ v') ∧ NewRow w v v' ∧ w2.cell? ⟨b, 1, none⟩ = some v ∧ w2.frozen? ⟨b, 1, none⟩ = false ∧ w2.cell? ⟨b, 0, none⟩ = some (.pointer (some ⟨b, 0, none⟩)) := by
  have hb2 : w2.heap[b]? = some (.cells #[.pointer (some ⟨b, 0, none⟩), v] 42 (0, 0)) := (gr.block b h.lt (fun e => h.2.2.1 e.symm)).trans h.1
  have hne : v'.ownBlock ≠ some b := by
    rcases nr with e | ⟨k, e, hk⟩
    · rw [e]; exact h.2.2.1
    · rw [e]; intro e2; cases e2; have := h.lt; omega
  subst hn
  refine ⟨Or.inr ⟨?_, own_keepB h2 (fun k hk => Below.heap_setCell _ _ _ _ (by show k ≠ b; exact fun e => hne (by rw [hk, e]))), hne, hnil⟩, ⟨gr.os, gr.tape, gr.output, by rw [World.size_setCell]; exact gr.size, fun k hk hb hv => (Below.heap_setCell _ _ _ _ (by show k ≠ b; exact hb)).trans (gr.block k hk (fun e => hv e.symm))⟩, nr, by rw [Lib.cell_of_heap hb2]; rfl, Lib.frozen_of_heap hb2 1, by rw [Lib.cell_of_heap hb2]; rfl⟩
  simp [World.setCell, Array.getElem?_modify, hb2]
set_option maxHeartbeats 2000000 in
theorem wstr_any (b : Nat) (v : Value) (bs : List Value) (s : ByteArray) (w : World) (h : Bd b v bs w) (hn : bs.length + s.size ≤ 140737488355328) :
    Calls Try.prog 38 #[.pointer (some ⟨b, 0, none⟩), .string s] w fun e w' => e = .returned (.tuple #[.int .i64 s.size, .nilIface]) ∧ ∃ v', Bd b v' (bs ++ Lib.strCells s) w' ∧ Kb b v w w' ∧ NewRow w v v' := by
  have C := hide (check_any b v bs w h)
  clear h
  go_enter Try.func38, Try.ntmps38
  go_wp2_with fail
  refine (unhide C).mono ?_
  rintro e w1 ⟨rfl, h1, k1⟩
  clear C
  obtain ⟨v', w2, hr, h2, h3, h4, hz⟩ := own_str h1.2.1 s hn
  obtain ⟨h5, h6, h7, e1, f1, e0⟩ := bd_put (xs := Lib.strCells s) (fun e => hz ⟨h1.2.2.2 (List.append_eq_nil_iff.1 e).1, by have := (List.append_eq_nil_iff.1 e).2; rw [← Lib.strCells_length, this]; rfl⟩) h1 (by simp [Lib.strCells_length]) h2 h3 (by
    rcases h4 with h4 | h4
    · exact Or.inl h4
    · exact Or.inr ⟨_, h4, Nat.le_refl _⟩)
  have c0 := h1.cell0
  have c1 := h1.cell1
  have FIN : Hid (∃ v'', Bd b v'' (bs ++ Lib.strCells s) (w2.setCell ⟨b, 1, none⟩ v') ∧ Kb b v w (w2.setCell ⟨b, 1, none⟩ v') ∧ NewRow w v v'') := hide ⟨v', h5, k1.trans (Or.inl rfl) h6, by
    rcases h7 with h7 | ⟨q, q1, q2⟩
    · exact Or.inl h7
    · exact Or.inr ⟨q, q1, Nat.le_trans k1.size q2⟩⟩
  obtain ⟨ao, n1, cap, rfl⟩ := own_sl h1.2.1
  obtain ⟨ao2, n2, cap2, rfl⟩ := own_sl h2
  clear h1 k1 h2 h3 h4 h5 h6 h7 hz
  go_wp2_with (at_builtin; refine wpl_apS rfl (.tmp 12) (.tmp 13) 40 9 rfl _ _ rfl rfl _ _ hr ?_)
  go_ret2
  exact ⟨rfl, unhide FIN⟩
set_option maxHeartbeats 2000000 in
theorem wbyte_any (b : Nat) (v : Value) (bs : List Value) (c : Int) (w : World) (h : Bd b v bs w) (hn : bs.length + 1 ≤ 140737488355328) :
    Calls Try.prog 40 #[.pointer (some ⟨b, 0, none⟩), .int .u8 c] w fun e w' => e = .returned .nilIface ∧ ∃ v', Bd b v' (bs ++ [.int .u8 c]) w' ∧ Kb b v w w' ∧ NewRow w v v' := by
  have C := hide (check_any b v bs w h)
  clear h
  go_enter Try.func40, Try.ntmps40
  go_wp2_with fail
  refine (unhide C).mono ?_
  rintro e w1 ⟨rfl, h1, k1⟩
  clear C
  obtain ⟨i, hi, hz, hs, hb⟩ := info_parts info_byte
  have ga := G.alloc w1 (.cells #[.int .u8 c] 5)
  have hown := own_keepB h1.2.1 (fun k hk => ga.block k (own_ltB h1.2.1 k hk))
  obtain ⟨v', w2, hr, h2, h3, _, h4⟩ := run_append_own_at (P := Try.prog) (w1.alloc (.cells #[.int .u8 c] 5)) 0 40 40 5 i _ 1 1 Try.underlying40 hi hz hs hb rfl (by decide) v bs.length _ hown ⟨w1.heap.size, 0, none⟩ 1 1 [.int .u8 c] rfl (fun j u hj => by
      rw [Addr.add_lit, Lib.cell_of_heap (heap_alloc_new w1 _), Nat.zero_add]
      simpa using hj) (fun u hu => by
      simp only [List.mem_cons, List.not_mem_nil, or_false] at hu
      subst hu; rfl) (by unfold maxLen; omega) (by omega) (Nat.zero_le _)
  have gr : w1.grownBy w2 v.ownBlock := ⟨h3.os.trans ga.os, h3.tape.trans ga.tape, h3.output.trans ga.output, Nat.le_trans ga.size h3.size, fun k hk hv => (h3.block k (Nat.lt_of_lt_of_le hk ga.size) hv).trans (ga.block k hk)⟩
  obtain ⟨h5, h6, h7, e1, f1, e0⟩ := bd_put (xs := [.int .u8 c]) (fun e => by simp at e) h1 (by simp) h2 gr (by
    rcases h4 with h4 | h4
    · exact Or.inl h4
    · exact Or.inr ⟨_, h4, ga.size⟩)
  have c0 := h1.cell0
  have c1 := h1.cell1
  have a1 := ga.cell c1
  have FIN : Hid (∃ v'', Bd b v'' (bs ++ [.int .u8 c]) (w2.setCell ⟨b, 1, none⟩ v') ∧ Kb b v w (w2.setCell ⟨b, 1, none⟩ v') ∧ NewRow w v v'') := hide ⟨v', h5, k1.trans (Or.inl rfl) h6, by
    rcases h7 with h7 | ⟨q, q1, q2⟩
    · exact Or.inl h7
    · exact Or.inr ⟨q, q1, Nat.le_trans k1.size q2⟩⟩
  obtain ⟨ao, n1, cap, rfl⟩ := own_sl h1.2.1
  obtain ⟨ao2, n2, cap2, rfl⟩ := own_sl h2
  clear h1 k1 h2 h3 h4 h5 h6 h7 gr hown ga hi hz hs hb
  go_wp2_with (at_builtin; refine wpl_apS rfl (.tmp 11) (.tmp 13) 40 40 rfl _ _ rfl rfl _ _ hr ?_)
  go_ret
  exact ⟨rfl, unhide FIN⟩
set_option maxHeartbeats 2000000 in
/-- The text that a builder holds. -/
theorem bstr_some (b : Nat) (v : Value) (l : List UInt8) (w : World) (h : Bd b v (Lib.byteCells l) w) (h0 : l ≠ []) (B : Nat) (hB : ∀ k, v.ownBlock = some k → B ≤ k) :
    Calls Try.prog 16 #[.pointer (some ⟨b, 0, none⟩)] w fun e w' => e = .returned (.string ⟨l.toArray⟩) ∧ Below B w w' := by
  obtain ⟨p, hbk, hown, hne⟩ : ∃ p, BdP b p v (Lib.byteCells l) w := by
    rcases h with h | h
    · exact ⟨_, h⟩
    · exact ⟨_, h⟩
  have hl0 : l.length ≠ 0 := by simpa using h0
  rw [Lib.byteCells_length] at hown
  obtain ⟨g, cap, cur, rfl, hg, hnc, hcm, hcs, htake⟩ : ∃ g cap cur, v = .slice (some ⟨g, 0, none⟩) l.length cap ∧ w.heap[g]? = some (.cells cur 5 (0, 0)) ∧ l.length ≤ cap ∧ cap ≤ maxLen ∧ cur.size = cap * 1 ∧ cur.toList.take (l.length * 1) = Lib.byteCells l := by
    rcases hown.2 with ⟨_, hz⟩ | ⟨g, cap, cur, hv, _, r⟩
    · exact absurd hz hl0
    · exact ⟨g, cap, cur, hv, r⟩
  have c0 : w.cell? ⟨b, 1, none⟩ = some (.slice (some ⟨g, 0, none⟩) l.length cap) := by rw [Lib.cell_of_heap hbk]; rfl
  have c1 : w.drew.cell? ⟨b, 1, none⟩ = some (.slice (some ⟨g, 0, none⟩) l.length cap) := c0
  have hSD : (Builtin.unsafeSliceData_ #[40] 59 #[.slice (some ⟨g, 0, none⟩) l.length cap]).run Try.prog w.drew = .ok (.pointer (some ⟨g, 0, none⟩)) w.drew :=
    Lib.run_unsafeSliceData_row _ _ _ _ _ _ (by omega)
  have hUS : (Builtin.unsafeString_ #[59, 3] 9 #[.pointer (some ⟨g, 0, none⟩), .int .i64 l.length]).run Try.prog w.drew = .ok (.string ⟨l.toArray⟩) (w.drew.freeze ⟨g, 0, none⟩ l.length) := by
    refine Lib.run_unsafeString_row w.drew 59 3 9 5 Try.underlying59 cells_byte g cur.size (by have hg' : w.drew.heap[g]? = some (.cells cur 5 (0, 0)) := hg; simp [World.shape?, hg']) l h0 (by omega) (by unfold maxLen at hcm; omega) ?_
    intro j x hx
    have := hown.cells (g := g) rfl j (.int .u8 x.toNat) (by simp [Lib.byteCells, hx])
    exact this
  have K : Hid (Below B w (w.drew.freeze ⟨g, 0, none⟩ l.length)) := hide (Lib.below_freeze (Below.drew (Below.refl B w)) (p := ⟨g, 0, none⟩) (hB g rfl) l.length)
  clear hbk hown hne h hg hnc hcm hcs htake hB
  go_enter Try.func16, Try.ntmps16
  go_wp2_with fail
  go_region
  all_goals
    go_wp2_with fail
    go_ret
    exact ⟨rfl, unhide K⟩
set_option maxHeartbeats 2000000 in
theorem bstr_nil (b : Nat) (w : World) (h : Bd b (.slice none 0 0) [] w) (B : Nat) :
    Calls Try.prog 16 #[.pointer (some ⟨b, 0, none⟩)] w fun e w' => e = .returned (.string ⟨#[]⟩) ∧ Below B w w' := by
  obtain ⟨p, hbk, -⟩ : ∃ p, BdP b p (.slice none 0 0) [] w := by
    rcases h with h | h
    · exact ⟨_, h⟩
    · exact ⟨_, h⟩
  have c0 : w.cell? ⟨b, 1, none⟩ = some (.slice none 0 0) := by rw [Lib.cell_of_heap hbk]; rfl
  have c1 : w.drew.cell? ⟨b, 1, none⟩ = some (.slice none 0 0) := c0
  have hSD : (Builtin.unsafeSliceData_ #[40] 59 #[.slice none 0 0]).run Try.prog w.drew = .ok (.pointer none) w.drew := rfl
  have hUS : ∀ (y : World) (q : Option Addr), (Builtin.unsafeString_ #[59, 3] 9 #[.pointer q, .int .i64 0]).run Try.prog y = .ok (.string .empty) y := fun y q => Lib.run_unsafeString_none y _ _ _ q
  have K : Hid (Below B w w.drew) := hide (Below.drew (Below.refl B w))
  clear hbk h
  go_enter Try.func16, Try.ntmps16
  go_wp2_with fail
  go_region
  all_goals
    go_wp2_with fail
    go_ret
    exact ⟨rfl, unhide K⟩
end Go.Proofs.Ythbpmekfgkagiaa
