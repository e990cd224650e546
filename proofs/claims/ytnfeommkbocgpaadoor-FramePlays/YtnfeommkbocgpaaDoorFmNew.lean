/- Call and New of package frame. -/
import Derived.Test.YtnfeommkbocgpaaDoorFmCall
namespace Go.Proofs.YtnfeommkbocgpaaDoor
open Go.RowKit Go.Maps Go.ChangeShapes Go.WideShapes Go.ChangeAt Go.Deep

theorem wpl_copyr {ops : Array Oper} {rest : List Oper} {o : Oper} {a : Act} {w : World} {Q : Exit → Act → World → Prop} (hgd : o.guard = none) (s x : Operand) (t : TypeId) (ho : o.op = .call { callee := .builtin .copy, args := #[s, x], argTypes := #[t, t] })
    (vs vx : Value) (hs : a.eval s = vs) (hx : a.eval x = vx) (v' : Value) (w' : World) (hrun : (Builtin.copy_ #[t, t] o.type #[vs, vx]).run Tryd.prog w = .ok v' w') (h : wpList Tryd.prog ops Q rest (a.put o.dst v') w') : wpList Tryd.prog ops Q (o :: rest) a w := by
  refine wpList_plain hgd fun K hK => ?_
  unfold Oper.wp execOp
  simp only [ho, resolve, invoke, builtin, Sem.run_bind, Sem.run_pure, Result.andThen_ok, List.map_toArray, List.map_cons, List.map_nil, hs, hx, hrun]
  exact hK _ _ h
theorem wpl_apr {ops : Array Oper} {rest : List Oper} {o : Oper} {a : Act} {w : World} {Q : Exit → Act → World → Prop} (hgd : o.guard = none) (s x : Operand) (t : TypeId) (ho : o.op = .call { callee := .builtin .append, args := #[s, x], argTypes := #[t, t] })
    (vs vx : Value) (hs : a.eval s = vs) (hx : a.eval x = vx) (v' : Value) (w' : World) (hrun : (Builtin.append_ #[t, t] o.type #[vs, vx]).run Tryd.prog w = .ok v' w') (h : wpList Tryd.prog ops Q rest (a.put o.dst v') w') : wpList Tryd.prog ops Q (o :: rest) a w := by
  refine wpList_plain hgd fun K hK => ?_
  unfold Oper.wp execOp
  simp only [ho, resolve, invoke, builtin, Sem.run_bind, Sem.run_pure, Result.andThen_ok, List.map_toArray, List.map_cons, List.map_nil, hs, hx, hrun]
  exact hK _ _ h
/-- The slots of a new frame. -/
def laidL (S : Nat) (l : List Int) : List Int := l ++ List.replicate (S - l.length) 0
theorem laidL_len {S : Nat} {l : List Int} (h : l.length ≤ S) : (laidL S l).length = S := by unfold laidL; simp; omega
def mkC (S : Nat) : Array Value := madeCells #[.int .i64 0] (S * 1)
theorem mkC_list (S : Nat) : (mkC S).toList = List.replicate S (.int .i64 0) := by unfold mkC; rw [Nat.mul_one, toList_madeCells_one]
theorem mk_slots (S : Nat) (hS : S ≤ 64) (w : World) : (Instr.makeSlice 29 (.int .i64 (S : Int)) (.int .i64 (S : Int))).run Tryd.prog w = .ok (.slice (some ⟨w.heap.size, 0, none⟩) S S) (w.alloc (.cells (mkC S) 2)) := by
  obtain ⟨i, hi, hz, hs, hb⟩ := info_parts info_int64
  have := run_make (P := Tryd.prog) w 29 2 i _ Tryd.underlying29 hi hz .i64 .i64 (S : Int) (S : Int) (by omega) (Int.le_refl _) (by rw [hb]; omega) (by omega)
  simp only [Int.toNat_natCast] at this
  rw [this, hs]
  rfl
theorem lay_copy (x : World) (S : Nat) (hS : S ≤ 64) {ao : Option Addr} {n c : Nat} {l : List Int} (hr : RowAt elI x ao n c l) (hn : n ≤ S) (ty : TypeId) :
    ∃ v' x2, (Builtin.copy_ #[29, 29] ty #[.slice (some ⟨x.heap.size, 0, none⟩) S S, .slice ao n c]).run Tryd.prog (x.alloc (.cells (mkC S) 2)) = .ok v' x2 ∧ x2.ownsRow x.heap.size 2 1 (.slice (some ⟨x.heap.size, 0, none⟩) S S) S ((laidL S l).map (Value.int .i64)) ∧ G x x2 := by
  have hln := hr.1
  have hsz : (Tryd.prog.info? 2).map (·.size) = some 1 := by kernel_rfl
  have hms : (mkC S).size = S := by have := congrArg List.length (mkC_list S); simpa using this
  by_cases h0 : n = 0
  · subst h0
    obtain rfl : l = [] := List.eq_nil_of_length_eq_zero hln
    refine ⟨_, _, run_copy_none (P := Tryd.prog) _ 29 29 ty 2 _ ao S S 0 c Tryd.underlying29 hsz (Nat.zero_min _), ?_, G.alloc x _⟩
    have := World.ownsRow_lit (base := x.heap.size) (e := 2) (size := 1) x (mkC S) S (Nat.le_refl _) (by unfold maxLen; omega) (by rw [hms]; omega)
    rw [mkC_list] at this
    simpa [laidL] using this
  · rcases hr.2.2.2 with hz0 | ⟨b, off, rfl, hbl, hc⟩
    · exact absurd hz0 h0
    have hg := heap_alloc_new x (.cells (mkC S) 2)
    have hrun := run_copy_row (P := Tryd.prog) (x.alloc (.cells (mkC S) 2)) 29 29 ty 2 x.heap.size 0 S S ⟨b, off, none⟩ n c (mkC S) 2 (l.map (Value.int .i64)) Tryd.underlying29 hsz hg (by rw [List.length_map, hln]; exact (Nat.min_eq_left hn).symm)
      (fun j u hj => by
        rw [List.getElem?_map] at hj
        obtain ⟨z, hz1, rfl⟩ := Option.map_eq_some_iff.1 hj
        obtain ⟨cs, ecs, hcs⟩ := hc j z hz1
        have ecs : cs = [.int .i64 z] := ecs
        subst ecs
        have h4 := hcs 0 _ rfl
        rw [Addr.add_lit]
        refine (G.alloc x _).cell ?_
        simpa [elI] using h4) (by rw [List.length_map, hln, hms]; omega) (fun u hu => by obtain ⟨z, _, rfl⟩ := List.mem_map.1 hu; rfl)
    refine ⟨_, _, hrun, ⟨by rw [List.length_map, laidL_len (by omega)]; omega, Or.inr ⟨x.heap.size, S, _, rfl, Nat.le_refl _, setRow_heap _ _ _ _ _ _ hg, Nat.le_refl _, by unfold maxLen; omega, ?_, ?_⟩⟩, ⟨rfl, rfl, rfl, ?_, fun k hk => (setRow_other _ _ _ _ (by omega)).trans ((G.alloc x _).block k hk)⟩⟩
    · rw [mkC_list]
      simp [hln]
      omega
    · rw [mkC_list]
      simp only [List.take_zero, List.nil_append, Nat.zero_add, List.length_map, List.drop_replicate]
      unfold laidL
      rw [List.map_append, List.map_replicate]
      exact List.take_of_length_le (by simp; omega)
    · simp [World.setRow]
/-- A call that is taken: what the Stack holds then. -/
def CallTo (w : World) (B s : Nat) (v : Value) (L : List Fr) (k : Int) (sl : List Int) (w' : World) : Prop := ∃ sb v', w.heap.size ≤ sb ∧ SK w' B s v' (L ++ [⟨k, 0, sb, sl.length, sl⟩]) ∧ Mv w w' s v L v' (L ++ [⟨k, 0, sb, sl.length, sl⟩])
set_option maxHeartbeats 2000000 in
theorem call_ok {w : World} {B s : Nat} {v : Value} {L : List Fr} (h : SK w B s v L) (hB : B ≤ w.heap.size) {mv : Value} {m : Md} (hm : ModAt w mv m) {f : Fn} (k : Int) (hf : fmAt m k = some f) {ao : Option Addr} {n c : Nat} {l : List Int} (hr : RowAt elI w ao n c l) (ht : tkP f n = true) (hL : L.length < 256) (op : oI f.p) :
    Calls Tryd.prog 10 #[.pointer (some ⟨s, 0, none⟩), mv, .int .i64 k, .slice ao n c] w fun e w' => e = .returned (.int .i64 0) ∧ CallTo w B s v L k (laidL f.s.toNat l) w' := by
  have hs2 : 0 ≤ f.s ∧ f.s ≤ 64 ∧ (n : Int) ≤ f.s := by unfold tkP at ht; simp at ht; omega
  obtain ⟨S, hS⟩ : ∃ S : Nat, f.s = S := ⟨f.s.toNat, by omega⟩
  obtain ⟨ao0, c0, ev, _⟩ := h.rk.v
  obtain ⟨N, hN⟩ : ∃ N, N = L.length := ⟨_, rfl⟩
  have hN256 : ¬ (256 : Int) ≤ (N : Int) := by omega
  have hcs : ∀ x, G w x → x.cell? ⟨s, 0, none⟩ = some (.slice ao0 N c0) := fun x g => by rw [hN, ← ev]; exact (h.g g).c0
  have hsz : s < w.heap.size := h.lts
  have CF : Hid (∀ x, G w x → Calls Tryd.prog 25 #[mv, .int .i64 k] x fun e w' => ∃ (ko : Option Addr) (kc : Nat) (io : Option Addr) (ic : Nat) (mo : Option Addr) (mc : Nat), e = .returned (.tuple #[agF f ko kc io ic mo mc, .bool true]) ∧ G x w') := hide fun x g => (fu_any w x g mv m hm k).mono (by
    rintro e w' ⟨ko, kc, io, ic, mo, mc, rfl, _, _, g2⟩
    rw [hf]
    exact ⟨ko, kc, io, ic, mo, mc, rfl, g2⟩)
  have CT : Hid (∀ x (ko : Option Addr) (kc : Nat) (io : Option Addr) (ic : Nat) (mo : Option Addr) (mc : Nat), Calls Tryd.prog 26 #[agF f ko kc io ic mo mc, .int .i64 (n : Int)] x fun e w' => e = .returned (.bool true) ∧ G x w') := hide fun x ko kc io ic mo mc => by
    have := tk_any x f ko kc io ic mo mc n (by omega) op
    rw [ht] at this
    exact this
  have CP : Hid (∀ x, G w x → ∃ v' x2, (Builtin.copy_ #[29, 29] 3 #[.slice (some ⟨x.heap.size, 0, none⟩) S S, .slice ao n c]).run Tryd.prog (x.alloc (.cells (mkC S) 2)) = .ok v' x2 ∧ x2.cell? ⟨s, 0, none⟩ = some (.slice ao0 N c0) ∧ s < x2.heap.size ∧ Hid (x2.ownsRow x.heap.size 2 1 (.slice (some ⟨x.heap.size, 0, none⟩) S S) S ((laidL S l).map (Value.int .i64)) ∧ G x x2)) := hide fun x g => by
    obtain ⟨v', x2, h1, h2, h3⟩ := lay_copy x S (by omega) (hr.g okI g) (by omega) 3
    exact ⟨v', x2, h1, hcs _ (g.trans h3), Nat.lt_of_lt_of_le hsz (g.trans h3).size, hide ⟨h2, h3⟩⟩
  have AP : Hid (∀ x x2, G w x → x2.ownsRow x.heap.size 2 1 (.slice (some ⟨x.heap.size, 0, none⟩) S S) S ((laidL S l).map (Value.int .i64)) ∧ G x x2 → ∃ kb2 c2 x3, (Builtin.append_ #[48, 48] 48 #[.slice ao0 N c0, .slice (some ⟨x2.heap.size, 0, none⟩) 1 1]).run Tryd.prog (x2.alloc (.cells #[.int .i64 k, .int .i64 0, .slice (some ⟨x.heap.size, 0, none⟩) S S] 46)) = .ok (.slice (some ⟨kb2, 0, none⟩) (N + 1) c2) x3 ∧ x3.cell? ⟨s, 0, none⟩ = some (.slice ao0 N c0) ∧ x3.frozen? ⟨s, 0, none⟩ = false ∧ Hid (CallTo w B s v L k (laidL S l) (x3.setCell ⟨s, 0, none⟩ (.slice (some ⟨kb2, 0, none⟩) (N + 1) c2)))) := hide fun x x2 g hx => by
    have gx := (g.trans hx.2).more (.cells #[.int .i64 k, .int .i64 0, .slice (some ⟨x.heap.size, 0, none⟩) S S] 46)
    have hll : (laidL S l).length = S := laidL_len (by have := hr.1; omega)
    have hgs := g.size
    have own2 : (x2.alloc (.cells #[.int .i64 k, .int .i64 0, .slice (some ⟨x.heap.size, 0, none⟩) S S] 46)).ownsRow B 2 1 (.slice (some ⟨x.heap.size, 0, none⟩) (laidL S l).length (laidL S l).length) (laidL S l).length ((laidL S l).map (Value.int .i64)) := by
      rw [hll]
      have h1 := own_keep1 hx.1 ((G.alloc x2 (.cells #[.int .i64 k, .int .i64 0, .slice (some ⟨x.heap.size, 0, none⟩) S S] 46)).block _ (own_lt hx.1))
      refine ⟨h1.1, ?_⟩
      rcases h1.2 with h' | ⟨g', cap', cur, h', hb2, hr⟩
      · exact Or.inl h'
      · exact Or.inr ⟨g', cap', cur, h', by omega, hr⟩
    obtain ⟨v', x3, hrun, r1, r2, r3⟩ := h.rk.app gx hB ⟨k, 0, x.heap.size, (laidL S l).length, laidL S l⟩ own2 hgs x2.heap.size (fun q u hq => by
      simp only [frC, hll] at hq
      rw [Addr.add_lit, cell_of_row _ _ _ _ _ _ (heap_alloc_new x2 _), Nat.zero_add]
      simpa using hq) (by omega)
    rw [ev, ← hN] at hrun
    obtain ⟨kb2, c2, hv2⟩ := r1.vt
    rw [← hN] at hv2
    have hskx := h.g gx
    have hns : ¬ v.ownBlock = some s := fun e => h.ns (Or.inl e)
    have c3 : x3.cell? ⟨s, 0, none⟩ = some v := r2.cell hskx.c0 hns
    have hne : ¬ RKb v' (L ++ [⟨k, 0, x.heap.size, (laidL S l).length, laidL S l⟩]) s := by
      rintro (hb | ⟨y, hy, e⟩)
      · rcases r3 s hb with e | e
        · exact hns e
        · have := gx.size; omega
      · rcases List.mem_append.1 hy with hy | hy
        · exact h.ns (Or.inr ⟨y, hy, e⟩)
        · simp at hy
          subst hy
          simp only at e
          omega
    rw [hv2] at hrun
    refine ⟨kb2, c2, x3, hrun, by rw [hN, ← ev]; exact c3, (World.frozen?_of_block (a := ⟨s, 0, none⟩) (r2.block s hskx.lts hns)).trans hskx.f0, ?_⟩
    rw [← hv2]
    refine hide ⟨x.heap.size, v', hgs, ⟨r1.keep (fun q hq => heap_set _ _ (show q ≠ s from fun e => hne (by rw [← e]; exact hq))), cell_same _ c3, ?_, h.hs, hne⟩, ⟨?_, fun q hq => ?_⟩⟩
    · rw [World.frozen?_setCell]
      exact (World.frozen?_of_block (a := ⟨s, 0, none⟩) (r2.block s hskx.lts hns)).trans hskx.f0
    · exact ((TrB.of_G _ gx).trans r2 (fun q _ hq => Or.inr (Or.inl hq))).set s 0 _ (Or.inl (Or.inl rfl))
    · rcases hq with e | hb | ⟨y, hy, e⟩
      · exact Or.inl (Or.inl e)
      · rcases r3 q hb with e | e
        · exact Or.inl (Or.inr (Or.inl e))
        · exact Or.inr (Nat.le_trans gx.size e)
      · rcases List.mem_append.1 hy with hy | hy
        · exact Or.inl (Or.inr (Or.inr ⟨y, hy, e⟩))
        · simp at hy
          subst hy
          exact Or.inr (by simp only at e; omega)
  have hmk := mk_slots S (by omega)
  generalize mkC S = CC at hmk CP
  obtain ⟨so, sc, go, gc, co, cc, mo_, mc_, fo, fc, rfl, _⟩ := hm
  rw [hS, Int.toNat_natCast]
  unfold agF at CF CT
  simp only [hS] at CF CT
  obtain ⟨p, c1, s1, r1, ks, is, ms⟩ := f
  simp only at CF CT hS
  have c0w : w.cell? ⟨s, 0, none⟩ = some (.slice ao0 N c0) := hcs w (G.refl w)
  clear hr ht hf h op hcs hN hL hs2 ev
  replace hS := hide hS
  go_enter Tryd.func10, Tryd.ntmps10
  go_wp2_with fail
  refine (unhide CF _ (G.alloc w _)).mono ?_
  rintro e w1 ⟨ko, kc, io, ic, mo, mc, rfl, g1⟩
  have G1 := hide ((G.alloc w _).trans g1)
  clear g1 CF c0w
  go_wp2_with fail
  refine (unhide CT _ ko kc io ic mo mc).mono ?_
  rintro e w2 ⟨rfl, g2⟩
  have d2 : w2.cell? ⟨w1.heap.size, 2, none⟩ = some (.int .i64 (S : Int)) := g2.cell (by simp [go_sem])
  have GX := hide ((unhide G1).trans ((G.alloc w1 _).trans g2))
  obtain ⟨v1, x2, hrun1, d3, d4, HX⟩ := unhide CP w2 (unhide GX)
  obtain ⟨kb2, c2, x3, hrun2, d5, d6, FIN⟩ := unhide AP w2 x2 (unhide GX) (unhide HX)
  clear g2 G1 CT CP AP HX GX
  go_upto_region 7 with fail
  go_upto_region 8 with (refine wpl_copyr rfl (.tmp 36) (.tmp 37) 29 rfl _ _ rfl rfl _ _ hrun1 ?_)
  clear hrun1 hmk
  go_wp2_with (at_builtin; refine wpl_apr rfl (.tmp 43) (.tmp 47) 48 rfl _ _ rfl rfl _ _ hrun2 ?_)
  go_ret
  exact ⟨rfl, unhide FIN⟩
/-- A call that is refused for its function or arguments. -/
def refP (m : Md) (k : Int) (n : Nat) : Prop := ∀ f, fmAt m k = some f → tkP f n = false
set_option maxHeartbeats 2000000 in
theorem call_bad {w : World} {B s : Nat} {v : Value} {L : List Fr} (h : SK w B s v L) {mv : Value} {m : Md} (hm : ModAt w mv m) (k : Int) (ao : Option Addr) (n c : Nat) (hn : (n : Int) ≤ 9223372036854775807) (hb : refP m k n) (hL : L.length < 256) (op : ∀ f, fmAt m k = some f → oI f.p) :
    Calls Tryd.prog 10 #[.pointer (some ⟨s, 0, none⟩), mv, .int .i64 k, .slice ao n c] w fun e w' => e = .returned (.int .i64 1) ∧ G w w' := by
  obtain ⟨ao0, c0, ev, _⟩ := h.rk.v
  obtain ⟨N, hN⟩ : ∃ N, N = L.length := ⟨_, rfl⟩
  have hN256 : ¬ (256 : Int) ≤ (N : Int) := by omega
  have c0w : w.cell? ⟨s, 0, none⟩ = some (.slice ao0 N c0) := by rw [hN, ← ev]; exact h.c0
  have hsz : s < w.heap.size := h.lts
  clear h hN hL ev
  cases hf : fmAt m k with
  | none =>
    have CF : Hid (∀ x, G w x → Calls Tryd.prog 25 #[mv, .int .i64 k] x fun e w' => ∃ (ko : Option Addr) (kc : Nat) (io : Option Addr) (ic : Nat) (mo : Option Addr) (mc : Nat), e = .returned (.tuple #[agF noFm ko kc io ic mo mc, .bool false]) ∧ G x w') := hide fun x g => (fu_any w x g mv m hm k).mono (by
      rintro e w' ⟨ko, kc, io, ic, mo, mc, rfl, _, _, g2⟩
      rw [hf]
      exact ⟨ko, kc, io, ic, mo, mc, rfl, g2⟩)
    obtain ⟨so, sc, go, gc, co, cc, mo_, mc_, fo, fc, rfl, _⟩ := hm
    unfold agF noFm at CF
    clear hf hb op hn
    go_enter Tryd.func10, Tryd.ntmps10
    go_wp2_with fail
    refine (unhide CF _ (G.alloc w _)).mono ?_
    rintro e w1 ⟨ko, kc, io, ic, mo, mc, rfl, g1⟩
    have G1 := hide ((G.alloc w _).trans g1)
    clear g1 CF c0w
    go_wp2_with fail
    go_ret
    exact ⟨rfl, (unhide G1).more _⟩
  | some f =>
    have ht := hb f hf
    have CF : Hid (∀ x, G w x → Calls Tryd.prog 25 #[mv, .int .i64 k] x fun e w' => ∃ (ko : Option Addr) (kc : Nat) (io : Option Addr) (ic : Nat) (mo : Option Addr) (mc : Nat), e = .returned (.tuple #[agF f ko kc io ic mo mc, .bool true]) ∧ G x w') := hide fun x g => (fu_any w x g mv m hm k).mono (by
      rintro e w' ⟨ko, kc, io, ic, mo, mc, rfl, _, _, g2⟩
      rw [hf]
      exact ⟨ko, kc, io, ic, mo, mc, rfl, g2⟩)
    have CT : Hid (∀ x (ko : Option Addr) (kc : Nat) (io : Option Addr) (ic : Nat) (mo : Option Addr) (mc : Nat), Calls Tryd.prog 26 #[agF f ko kc io ic mo mc, .int .i64 (n : Int)] x fun e w' => e = .returned (.bool false) ∧ G x w') := hide fun x ko kc io ic mo mc => by
      have := tk_any x f ko kc io ic mo mc n hn (op f hf)
      rw [ht] at this
      exact this
    obtain ⟨so, sc, go, gc, co, cc, mo_, mc_, fo, fc, rfl, _⟩ := hm
    unfold agF at CF CT
    obtain ⟨p, c1, s1, r1, ks, is, ms⟩ := f
    simp only at CF CT
    clear hf hb op hn ht
    go_enter Tryd.func10, Tryd.ntmps10
    go_wp2_with fail
    refine (unhide CF _ (G.alloc w _)).mono ?_
    rintro e w1 ⟨ko, kc, io, ic, mo, mc, rfl, g1⟩
    have G1 := hide ((G.alloc w _).trans g1)
    clear g1 CF c0w
    go_wp2_with fail
    refine (unhide CT _ ko kc io ic mo mc).mono ?_
    rintro e w2 ⟨rfl, g2⟩
    have GX := hide ((unhide G1).trans ((G.alloc w1 _).trans g2))
    clear g2 G1 CT
    go_wp2_with fail
    go_ret
    exact ⟨rfl, unhide GX⟩
set_option maxHeartbeats 1000000 in
theorem call_full {w : World} {B s : Nat} {v : Value} {L : List Fr} (h : SK w B s v L) {mv : Value} {m : Md} (hm : ModAt w mv m) (k : Int) (ao : Option Addr) (n c : Nat) (hL : 256 ≤ L.length) :
    Calls Tryd.prog 10 #[.pointer (some ⟨s, 0, none⟩), mv, .int .i64 k, .slice ao n c] w fun e w' => e = .returned (.int .i64 2) ∧ G w w' := by
  obtain ⟨ao0, c0, ev, _⟩ := h.rk.v
  obtain ⟨N, hN⟩ : ∃ N, N = L.length := ⟨_, rfl⟩
  have hN256 : (256 : Int) ≤ (N : Int) := by omega
  have c0w : w.cell? ⟨s, 0, none⟩ = some (.slice ao0 N c0) := by rw [hN, ← ev]; exact h.c0
  have hsz : s < w.heap.size := h.lts
  obtain ⟨so, sc, go, gc, co, cc, mo_, mc_, fo, fc, rfl, _⟩ := hm
  clear h hN hL ev
  go_enter Tryd.func10, Tryd.ntmps10
  go_wp2_with fail
  go_ret
  exact ⟨rfl, (G.refl w).more _⟩
end Go.Proofs.YtnfeommkbocgpaaDoor
