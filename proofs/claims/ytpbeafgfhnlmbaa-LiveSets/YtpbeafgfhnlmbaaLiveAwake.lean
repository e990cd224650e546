/- awake of gantlinelaw10. -/
import Derived.Test.YtpbeafgfhnlmbaaLiveSm
namespace Go.Proofs.Ytpbeafgfhnlmbaa
set_option maxRecDepth 100000
open Go.RowKit Go.Maps Go.ChangeShapes Go.WideShapes Go.ChangeAt Go.Deep

/-- The module of nothing; a function of an add and a return. -/
def noM : Md := ⟨[], [], [], [], [], 0⟩
def fewF : Fn := ⟨0, 0, 4, 1, [false, false, true, false], [⟨3, 1, 2, 3, 0⟩, ⟨22, 1, 0, 0, 0⟩], []⟩
theorem modR_no (w : World) : ModR w noM none 0 none 0 none 0 none 0 none 0 := ⟨RowAt.nil w, RowAt.nil w, RowAt.nil w, RowAt.nil w, RowAt.nil w, Nat.le_refl _⟩
abbrev agN : Value := .agg #[.slice none 0 0, .slice none 0 0, .slice none 0 0, .slice none 0 0, .slice none 0 0, .int .i64 0]
abbrev agFew (kb ib : Nat) : Value := .agg #[.int .i64 0, .int .i64 0, .int .i64 4, .int .i64 1, .slice (some ⟨kb, 0, none⟩) 4 4, .slice (some ⟨ib, 0, none⟩) 2 2, .slice none 0 0]
def FewTo (w : World) (e : Ending) (w' : World) : Prop := ∃ kb ib, e = .returned (agFew kb ib) ∧ RowAt elB w' (some ⟨kb, 0, none⟩) 4 4 fewF.ks ∧ RowAt elIn w' (some ⟨ib, 0, none⟩) 2 2 fewF.is ∧ G w w'
theorem row_new {α : Type} {E : El α} (x : World) (l : List α) (cs : List Value) (t : TypeId) (hl : l.length ≤ 1000) (hc : ∀ i a, l[i]? = some a → ∃ c, (∀ y, E.cs y a c) ∧ ∀ q u, c[q]? = some u → cs[i * E.sz + q]? = some u) : RowAt E (x.alloc (.cells cs.toArray t)) (some ⟨x.heap.size, 0, none⟩) l.length l.length l := by
  refine ⟨rfl, by unfold maxLen; omega, (fun e => by cases e), Or.inr ⟨x.heap.size, 0, rfl, by rw [World.size_alloc]; omega, fun i a hi => ?_⟩⟩
  obtain ⟨c, h1, h2⟩ := hc i a hi
  refine ⟨c, h1 _, fun q u hq => ?_⟩
  rw [cell_of_row _ _ _ _ _ _ (heap_alloc_new x _), Nat.zero_add]
  simpa using h2 q u hq
theorem few_ks (x : World) : RowAt elB (x.alloc (.cells #[.bool false, .bool false, .bool true, .bool false] 4)) (some ⟨x.heap.size, 0, none⟩) 4 4 fewF.ks :=
  row_new (E := elB) x fewF.ks [.bool false, .bool false, .bool true, .bool false] 4 (by decide) (fun i a hi => by
    refine ⟨[.bool a], fun _ => rfl, fun q u hq => ?_⟩
    match i, hi with
    | 0, hi => cases hi; match q, hq with
      | 0, hq => exact hq
    | 1, hi => cases hi; match q, hq with
      | 0, hq => exact hq
    | 2, hi => cases hi; match q, hq with
      | 0, hq => exact hq
    | 3, hi => cases hi; match q, hq with
      | 0, hq => exact hq)
theorem few_is (x : World) : RowAt elIn (x.alloc (.cells #[.int .i64 3, .int .i64 1, .int .i64 2, .int .i64 3, .int .i64 0, .int .i64 22, .int .i64 1, .int .i64 0, .int .i64 0, .int .i64 0] 35)) (some ⟨x.heap.size, 0, none⟩) 2 2 fewF.is :=
  row_new (E := elIn) x fewF.is [.int .i64 3, .int .i64 1, .int .i64 2, .int .i64 3, .int .i64 0, .int .i64 22, .int .i64 1, .int .i64 0, .int .i64 0, .int .i64 0] 35 (by decide) (fun i a hi => by
    refine ⟨[.int .i64 a.op, .int .i64 a.a, .int .i64 a.b, .int .i64 a.c, .int .i64 a.d], fun _ => rfl, fun q u hq => ?_⟩
    match i, hi with
    | 0, hi => cases hi; match q, hq with
      | 0, hq => exact hq
      | 1, hq => exact hq
      | 2, hq => exact hq
      | 3, hq => exact hq
      | 4, hq => exact hq
    | 1, hi => cases hi; match q, hq with
      | 0, hq => exact hq
      | 1, hq => exact hq
      | 2, hq => exact hq
      | 3, hq => exact hq
      | 4, hq => exact hq)
theorem few_fin {w x : World} {n : Nat} (g : G w x) (hn : x.heap.size = n) : FewTo w (.returned (agFew n (n + 1))) ((x.alloc (.cells #[.bool false, .bool false, .bool true, .bool false] 4)).alloc (.cells #[.int .i64 3, .int .i64 1, .int .i64 2, .int .i64 3, .int .i64 0, .int .i64 22, .int .i64 1, .int .i64 0, .int .i64 0, .int .i64 0] 35)) := by
  subst hn
  refine ⟨x.heap.size, x.heap.size + 1, rfl, (few_ks x).g okB (G.alloc _ _), ?_, (g.more _).more _⟩
  have := few_is (x.alloc (.cells #[.bool false, .bool false, .bool true, .bool false] 4))
  rw [World.size_alloc] at this
  exact this
set_option maxHeartbeats 1000000 in
theorem few_any (w : World) : Calls Try.prog 25 #[] w (FewTo w) := by
  go_enter Try.func25, Try.ntmps25
  go_wp2_with fail
  refine bodyPost_ret (by simp [results, Try.results25, go_sem]; try rfl) rfl ?_
  exact few_fin (G.alloc w _) (World.size_alloc _ _)
theorem few_oIn : ∀ i ∈ fewF.is, oIn i := by
  intro i hi
  simp [fewF] at hi
  rcases hi with rfl | rfl <;> (unfold oIn oI; simp)
/-- The sets of that function. -/
theorem few_sets (st : Nat → Nat) (h : LeastD noM fewF st) : st 0 = 12 ∧ st 1 = 2 := by
  have r0 : rdP noM ⟨3, 1, 2, 3, 0⟩ = [2, 3] := by decide
  have r1 : rdP noM ⟨22, 1, 0, 0, 0⟩ = [1] := by decide
  have w0 : wrP ⟨3, 1, 2, 3, 0⟩ = [1] := by decide
  have f0 : flP noM fewF 0 = [1] := by decide
  have f1 : flP noM fewF 1 = [] := by decide
  have hX : ClD noM fewF (fun pc s => (pc = 0 ∧ (s = 2 ∨ s = 3)) ∨ (pc = 1 ∧ s = 1)) := by
    refine ⟨fun pc i s hi hs hr => ?_, fun pc i q s hi hne hq hX hs hw => ?_, fun pc i c q s hi h41 => ?_⟩
    · match pc, hi with
      | 0, hi =>
        cases hi
        rw [r0] at hr
        simp at hr
        exact Or.inl ⟨rfl, by omega⟩
      | 1, hi =>
        cases hi
        rw [r1] at hr
        simp at hr
        exact Or.inr ⟨rfl, by omega⟩
    · match pc, hi with
      | 0, hi =>
        cases hi
        replace hq : (q : Int) ∈ flP noM fewF 0 := hq
        rw [f0] at hq
        rw [w0] at hw
        simp at hq hw
        omega
      | 1, hi =>
        replace hq : (q : Int) ∈ flP noM fewF 1 := hq
        rw [f1] at hq
        cases hq
    · match pc, hi with
      | 0, hi => cases hi; cases h41
      | 1, hi => cases hi; cases h41
  have up := h.le _ hX
  have b : ∀ (pc v : Nat), pc < 2 → v < 18446744073709551616 → (∀ s, s < 64 → (v.testBit s = true ↔ (pc = 0 ∧ (s = 2 ∨ s = 3)) ∨ (pc = 1 ∧ s = 1))) → st pc = v := fun pc v hp hv hs => by
    refine Nat.eq_of_testBit_eq (fun s => ?_)
    by_cases h64 : s < 64
    · cases hv1 : v.testBit s
      · cases hs1 : (st pc).testBit s
        · rfl
        · have := (hs s h64).2 (up pc s hp hs1)
          rw [hv1] at this
          cases this
      · rcases (hs s h64).1 hv1 with ⟨rfl, e⟩ | ⟨rfl, e⟩
        · exact h.cl.rd 0 ⟨3, 1, 2, 3, 0⟩ s rfl h64 (by rw [r0]; simp; omega)
        · exact h.cl.rd 1 ⟨22, 1, 0, 0, 0⟩ s rfl h64 (by rw [r1]; simp; omega)
    · rw [bit_out hv (by omega), bit_out (h.bd pc hp) (by omega)]
  refine ⟨b 0 12 (by decide) (by decide) (by decide), b 1 2 (by decide) (by decide) (by decide)⟩
theorem fld5 (a b c d e f g : Value) (w : World) : (Instr.field 42 (.agg #[a, b, c, d, e, f, g]) 5).run Try.prog w = .ok f w := by kernel_rfl
theorem range2 (st : Nat → Nat) : (List.range 2).map st = [st 0, st 1] := rfl
set_option maxHeartbeats 4000000 in
theorem awake_any (w : World) : Calls Try.prog 8 #[] w fun e w' => e = .returned (.bool true) ∧ G w w' := by
  have FW := hide few_any
  have SE : Hid (∀ x kb ib, RowAt elB x (some ⟨kb, 0, none⟩) 4 4 fewF.ks → RowAt elIn x (some ⟨ib, 0, none⟩) 2 2 fewF.is → Calls Try.prog 12 #[agN, agFew kb ib] x fun e w' => ∃ b, e = .returned (.slice (some ⟨b, 0, none⟩) 2 2) ∧ IsN w' (.slice (some ⟨b, 0, none⟩) 2 2) [12, 2] ∧ G x w') := hide fun x kb ib hk hi =>
    (sets_any x noM none 0 none 0 none 0 none 0 none 0 fewF (some ⟨kb, 0, none⟩) 4 (some ⟨ib, 0, none⟩) 2 none 0 (modR_no x) hi few_oIn (fun s hs => by cases hs) (by decide) (by decide)).mono (fun e w' h => by
      obtain ⟨st, b, e1, e2, e3, e4, e5⟩ := h
      obtain ⟨s0, s1⟩ := few_sets st e5
      have := e2.isn (by decide)
      have hr : (List.range fewF.is.length).map st = [12, 2] := by show (List.range 2).map st = _; rw [range2, s0, s1]
      rw [hr] at this
      exact ⟨b, e1, this, e4⟩)
  have MA : Hid (∀ x kb ib, RowAt elB x (some ⟨kb, 0, none⟩) 4 4 fewF.ks → RowAt elIn x (some ⟨ib, 0, none⟩) 2 2 fewF.is → Calls Try.prog 23 #[agN, agFew kb ib] x fun e w' => ∃ b, e = .returned (.slice (some ⟨b, 0, none⟩) 2 2) ∧ IsN w' (.slice (some ⟨b, 0, none⟩) 2 2) [4, 0] ∧ G x w') := hide fun x kb ib hk hi =>
    (maps_any x noM none 0 none 0 none 0 none 0 none 0 fewF (some ⟨kb, 0, none⟩) 4 (some ⟨ib, 0, none⟩) 2 none 0 (modR_no x) hk hi few_oIn (fun s hs => by cases hs) (by decide) (by decide) (by decide)).mono (fun e w' h => by
      obtain ⟨st, b, e1, e2, e3, e4, e5⟩ := h
      obtain ⟨s0, s1⟩ := few_sets st e5
      have := e2.isn (by decide)
      have hr : (List.range fewF.is.length).map (fun k => st k &&& kndP fewF.ks) = [4, 0] := by show (List.range 2).map (fun k => st k &&& kndP fewF.ks) = _; rw [range2, s0, s1]; decide
      rw [hr] at this
      exact ⟨b, e1, this, e4⟩)
  have RD : Hid (∀ x, Calls Try.prog 9 #[agN, .agg #[.int .i64 3, .int .i64 1, .int .i64 2, .int .i64 3, .int .i64 0]] x (LTo x [2, 3])) := hide fun x => by
    have := reads_any x noM none 0 none 0 none 0 none 0 none 0 (modR_no x) ⟨3, 1, 2, 3, 0⟩ (by unfold oI; simp) (by decide)
    rw [show rdP noM ⟨3, 1, 2, 3, 0⟩ = [2, 3] by decide] at this
    exact this
  have WR : Hid (∀ x, Calls Try.prog 11 #[.agg #[.int .i64 3, .int .i64 1, .int .i64 2, .int .i64 3, .int .i64 0]] x (LTo x [1])) := hide fun x => by
    have := writes_any x ⟨3, 1, 2, 3, 0⟩
    rw [show wrP ⟨3, 1, 2, 3, 0⟩ = [1] by decide] at this
    exact this
  have FO : Hid (∀ x kb ib, RowAt elIn x (some ⟨ib, 0, none⟩) 2 2 fewF.is → Calls Try.prog 19 #[agN, agFew kb ib, .int .i64 0] x (LTo x [1])) := hide fun x kb ib hi => by
    have := follows_any x noM none 0 none 0 none 0 none 0 none 0 (modR_no x) fewF (some ⟨kb, 0, none⟩) 4 (some ⟨ib, 0, none⟩) 2 none 0 hi few_oIn (by decide) 0
    rw [show flP noM fewF 0 = [1] by decide] at this
    exact this.mono (fun e w' h => h.lto)
  have NU : Hid (∀ x b (a : List Nat), a.length = 2 → IsN x (.slice (some ⟨b, 0, none⟩) 2 2) a → ∀ y p q, a = [p, q] → G x y → Calls Try.prog 21 #[.slice (some ⟨b, 0, none⟩) 2 2, .slice (some ⟨y.heap.size, 0, none⟩) 2 2] (y.alloc (.cells #[.int .u64 (p : Int), .int .u64 (q : Int)] 64)) fun e w' => e = .returned (.bool true) ∧ G y w') := hide fun x b a ha hN y p q hpq g => by
    have ga := G.alloc y (.cells #[.int .u64 (p : Int), .int .u64 (q : Int)] 64)
    have := nums_any (y.alloc (.cells #[.int .u64 (p : Int), .int .u64 (q : Int)] 64)) _ _ a [p, q] (hN.g (g.trans ga)) (isn_new y [p, q] (by show 2 ≤ maxLen; decide)) (by omega) (by simp)
    refine this.mono (fun e w' h => ⟨?_, ga.trans h.2⟩)
    rw [h.1, hpq]
    simp
  have IN : Hid (∀ x v l, IsL x v l → l.length ≤ 10 → ∀ y, G x y → Calls Try.prog 10 #[v, .slice (some ⟨y.heap.size, 0, none⟩) l.length l.length] (y.alloc (.cells (l.map (Value.int .i64)).toArray 3)) fun e w' => e = .returned (.bool true) ∧ G y w') := hide fun x v l hL hl y g => by
    have ga := G.alloc y (.cells (l.map (Value.int .i64)).toArray 3)
    have := ints_any (y.alloc (.cells (l.map (Value.int .i64)).toArray 3)) _ _ l l (hL.g (g.trans ga)) (isl_new y l (by unfold maxLen; omega)) (by omega) (by omega)
    refine this.mono (fun e w' h => ⟨?_, ga.trans h.2⟩)
    rw [h.1]
    simp
  have IC : Hid (∀ x ib, RowAt elIn x (some ⟨ib, 0, none⟩) 2 2 fewF.is → x.cell? ⟨ib, 0, none⟩ = some (.int .i64 3) ∧ x.cell? ⟨ib, 1, none⟩ = some (.int .i64 1) ∧ x.cell? ⟨ib, 2, none⟩ = some (.int .i64 2) ∧ x.cell? ⟨ib, 3, none⟩ = some (.int .i64 3) ∧ x.cell? ⟨ib, 4, none⟩ = some (.int .i64 0)) := hide fun x ib h => by
    obtain ⟨b, off, a, cs, e, ha, ecs, hcs⟩ := row_get h (k := 0) (by decide)
    cases e
    cases ha
    have ecs : cs = [.int .i64 3, .int .i64 1, .int .i64 2, .int .i64 3, .int .i64 0] := ecs
    subst ecs
    have z := hcs x (G.refl x)
    exact ⟨z 0 _ rfl, z 1 _ rfl, z 2 _ rfl, z 3 _ rfl, z 4 _ rfl⟩
  have hf := fld5
  go_enter Try.func8, Try.ntmps8
  go_wp2_with fail
  refine (unhide FW w).mono ?_
  rintro e x1 ⟨kb, ib, rfl, hk, hi, g1⟩
  have C := hide (unhide SE x1 kb ib hk hi)
  replace g1 := hide g1
  clear hk hi
  go_wp2_with fail
  refine (unhide C).mono ?_
  rintro e x2 ⟨sb, rfl, N1, g2⟩
  have G2 := hide ((unhide g1).trans g2)
  replace N1 := hide N1
  clear C g1 g2
  go_wp2_with fail
  refine (unhide FW x2).mono ?_
  rintro e x3 ⟨kb3, ib3, rfl, hk, hi, g3⟩
  have C := hide (unhide MA x3 kb3 ib3 hk hi)
  replace g3 := hide g3
  clear hk hi
  go_wp2_with fail
  refine (unhide C).mono ?_
  rintro e x4 ⟨mb, rfl, N2, g4⟩
  have G4 := hide ((unhide g3).trans g4)
  replace N2 := hide N2
  clear C g3 g4
  go_wp2_with fail
  refine (unhide FW x4).mono ?_
  rintro e x5 ⟨kb5, ib5, rfl, hk, hi, g5⟩
  obtain ⟨i0, i1, i2, i3, i4⟩ := unhide IC x5 ib5 hi
  replace g5 := hide g5
  clear hk hi
  go_wp2_with fail
  refine (unhide RD x5).mono ?_
  rintro e x6 ⟨rv, rfl, L1, g6⟩
  have G6 := hide ((unhide g5).trans g6)
  replace L1 := hide L1
  clear g5 g6 i0 i1 i2 i3 i4
  go_wp2_with fail
  refine (unhide FW x6).mono ?_
  rintro e x7 ⟨kb7, ib7, rfl, hk, hi, g7⟩
  obtain ⟨i0, i1, i2, i3, i4⟩ := unhide IC x7 ib7 hi
  replace g7 := hide g7
  clear hk hi
  go_wp2_with fail
  refine (unhide WR x7).mono ?_
  rintro e x8 ⟨wv, rfl, L2, g8⟩
  have G8 := hide ((unhide g7).trans g8)
  replace L2 := hide L2
  clear g7 g8 i0 i1 i2 i3 i4
  go_wp2_with fail
  refine (unhide FW x8).mono ?_
  rintro e x9 ⟨kb9, ib9, rfl, hk, hi, g9⟩
  have C := hide (unhide FO x9 kb9 ib9 hi)
  replace g9 := hide g9
  clear hk hi
  go_wp2_with fail
  refine (unhide C).mono ?_
  rintro e x10 ⟨fv, rfl, L3, g10⟩
  have G10 := hide ((unhide g9).trans g10)
  replace L3 := hide L3
  have C1 := hide (unhide NU x2 sb [12, 2] rfl (unhide N1) x10 12 2 rfl ((unhide G4).trans ((unhide G6).trans ((unhide G8).trans (unhide G10)))))
  clear C g9 g10 FW SE MA RD WR FO IC
  go_wp2_with fail
  refine (unhide C1).mono ?_
  rintro e x11 ⟨rfl, g11⟩
  have C2 := hide (unhide NU x4 mb [4, 0] rfl (unhide N2) x11 4 0 rfl ((unhide G6).trans ((unhide G8).trans ((unhide G10).trans g11))))
  replace g11 := hide g11
  clear C1
  go_wp2_with fail
  refine (unhide C2).mono ?_
  rintro e x12 ⟨rfl, g12⟩
  have C3 := hide (unhide IN x6 rv [2, 3] (unhide L1) (by decide) x12 ((unhide G8).trans ((unhide G10).trans ((unhide g11).trans g12))))
  replace g12 := hide g12
  clear C2
  go_wp2_with fail
  refine (unhide C3).mono ?_
  rintro e x13 ⟨rfl, g13⟩
  have C4 := hide (unhide IN x8 wv [1] (unhide L2) (by decide) x13 ((unhide G10).trans ((unhide g11).trans ((unhide g12).trans g13))))
  replace g13 := hide g13
  clear C3
  go_wp2_with fail
  refine (unhide C4).mono ?_
  rintro e x14 ⟨rfl, g14⟩
  have C5 := hide (unhide IN x10 fv [1] (unhide L3) (by decide) x14 ((unhide g11).trans ((unhide g12).trans ((unhide g13).trans g14))))
  replace g14 := hide g14
  clear C4
  go_wp2_with fail
  refine (unhide C5).mono ?_
  rintro e x15 ⟨rfl, g15⟩
  have K : Hid (G w x15) := hide ((unhide G2).trans ((unhide G4).trans ((unhide G6).trans ((unhide G8).trans ((unhide G10).trans ((unhide g11).trans ((unhide g12).trans ((unhide g13).trans ((unhide g14).trans g15)))))))))
  clear C5 g15
  go_wp2_with fail
  go_ret
  exact ⟨rfl, unhide K⟩
end Go.Proofs.Ytpbeafgfhnlmbaa
