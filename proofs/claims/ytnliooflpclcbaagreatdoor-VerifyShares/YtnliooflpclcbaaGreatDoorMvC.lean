/- Here, one behind the other: VfC, VfLd, VfB, VfD, VfE, VfE2, VfE3, VfE4, VfH, VfI, VfJ, VfN. -/
import Derived.Test.YtnliooflpclcbaaGreatDoorVfA
import Derived.Test.YtnliooflpclcbaaGreatDoorLiveFC
import Derived.Deep.MidRow
import Derived.Deep.RegionHeld3
/- Package verify: slotsThere. -/
namespace Go.Proofs.YtnliooflpclcbaaGreatDoor
set_option maxRecDepth 100000
open Go.RowKit Go.Maps Go.ChangeShapes Go.WideShapes Go.ChangeAt Go.Deep

/-- The box of an item. -/
structure BxI (y : World) (b : Nat) (x : It) (kv cv : Value) : Prop where
  c0 : y.cell? ⟨b, 0, none⟩ = some (.int .i64 x.i.op)
  c1 : y.cell? ⟨b, 1, none⟩ = some (.int .i64 x.i.a)
  c2 : y.cell? ⟨b, 2, none⟩ = some (.int .i64 x.i.b)
  c3 : y.cell? ⟨b, 3, none⟩ = some (.int .i64 x.i.c)
  c4 : y.cell? ⟨b, 4, none⟩ = some (.int .i64 x.i.d)
  c5 : y.cell? ⟨b, 5, none⟩ = some (.int .i64 x.i.a)
  c6 : y.cell? ⟨b, 6, none⟩ = some (.int .i64 x.i.b)
  c7 : y.cell? ⟨b, 7, none⟩ = some (.int .i64 x.i.c)
  c8 : y.cell? ⟨b, 8, none⟩ = some (.int .i64 x.i.d)
  c9 : y.cell? ⟨b, 9, none⟩ = some (.int .u8 (x.r.1 : Int))
  c10 : y.cell? ⟨b, 10, none⟩ = some (.int .u8 (x.r.2.1 : Int))
  c11 : y.cell? ⟨b, 11, none⟩ = some (.int .u8 (x.r.2.2.1 : Int))
  c12 : y.cell? ⟨b, 12, none⟩ = some (.int .u8 (x.r.2.2.2 : Int))
  c13 : y.cell? ⟨b, 13, none⟩ = some (.int .i64 x.first)
  c14 : y.cell? ⟨b, 14, none⟩ = some (.int .i64 x.count)
  c15 : y.cell? ⟨b, 15, none⟩ = some kv
  c16 : y.cell? ⟨b, 16, none⟩ = some cv
abbrev itL (x : It) (kv cv : Value) : Array Value := #[.int .i64 x.i.op, .int .i64 x.i.a, .int .i64 x.i.b, .int .i64 x.i.c, .int .i64 x.i.d, .int .i64 x.i.a, .int .i64 x.i.b, .int .i64 x.i.c, .int .i64 x.i.d, .int .u8 (x.r.1 : Int), .int .u8 (x.r.2.1 : Int), .int .u8 (x.r.2.2.1 : Int), .int .u8 (x.r.2.2.2 : Int), .int .i64 x.first, .int .i64 x.count, kv, cv]
theorem bxi_new (w : World) (x : It) (kv cv : Value) : BxI (w.alloc (.cells (itL x kv cv) 79)) w.heap.size x kv cv := by
  constructor <;> (rw [World.cell?_alloc_new]; rfl)
theorem BxI.g {y z : World} {b : Nat} {x : It} {kv cv : Value} (h : BxI y b x kv cv) (g : G y z) : BxI z b x kv cv :=
  ⟨g.cell h.c0, g.cell h.c1, g.cell h.c2, g.cell h.c3, g.cell h.c4, g.cell h.c5, g.cell h.c6, g.cell h.c7, g.cell h.c8, g.cell h.c9, g.cell h.c10, g.cell h.c11, g.cell h.c12, g.cell h.c13, g.cell h.c14, g.cell h.c15, g.cell h.c16⟩
theorem slotsP_eq (s : Int) (x : It) : slotsP s x = ((slotP s x.r.1 x.i.a && (slotP s x.r.2.1 x.i.b && (slotP s x.r.2.2.1 x.i.c && slotP s x.r.2.2.2 x.i.d))) && (x.cs.all (caseP s) && runT s x.first x.count)) := rfl
theorem ix4_0 (a b c d : Value) (w : World) : (Instr.index 72 (.agg #[a, b, c, d]) (.int .i64 0)).run Tryz.prog w = .ok a w := by kernel_rfl
theorem ix4_1 (a b c d : Value) (w : World) : (Instr.index 72 (.agg #[a, b, c, d]) (.int .i64 1)).run Tryz.prog w = .ok b w := by kernel_rfl
theorem ix4_2 (a b c d : Value) (w : World) : (Instr.index 72 (.agg #[a, b, c, d]) (.int .i64 2)).run Tryz.prog w = .ok c w := by kernel_rfl
theorem ix4_3 (a b c d : Value) (w : World) : (Instr.index 72 (.agg #[a, b, c, d]) (.int .i64 3)).run Tryz.prog w = .ok d w := by kernel_rfl
/-- How a walk over the four roles goes on. -/
def R4k (p0 p1 p2 p3 : Bool) (i : Value) : Prop := i = .int .i64 0 ∨ (i = .int .i64 1 ∧ p0 = true) ∨ (i = .int .i64 2 ∧ p0 = true ∧ p1 = true) ∨ (i = .int .i64 3 ∧ p0 = true ∧ p1 = true ∧ p2 = true) ∨ (i = .int .i64 4 ∧ p0 = true ∧ p1 = true ∧ p2 = true ∧ p3 = true)
set_option maxHeartbeats 4000000 in
theorem slotsThere_any (w : World) (jb : Nat) (x : It) (s : Int) (kv : Value) (ao : Option Addr) (ac : Nat) (hs : w.cell? ⟨jb, 8, none⟩ = some (.int .i64 s)) (h1 : s ≤ 1000000) (hr : RowAt elCa w ao x.cs.length ac x.cs) (hn : x.cs.length ≤ 1000000) :
    Calls Tryz.prog 26 #[.pointer (some ⟨jb, 0, none⟩), .agg (itL x kv (.slice ao x.cs.length ac))] w fun e w' => e = .returned (.bool (slotsP s x)) ∧ G w w' := by
  obtain ⟨W1, hW1⟩ : ∃ W1, W1 = w.alloc (.cells (itL x kv (.slice ao x.cs.length ac)) 79) := ⟨_, rfl⟩
  have B := bxi_new w x kv (.slice ao x.cs.length ac)
  rw [← hW1] at B
  have g1 : G w W1 := by rw [hW1]; exact G.alloc _ _
  have q8 := g1.cell hs
  have hr1 := hr.g okCa g1
  have D0 : Hid (∀ y, G W1 y → Calls Tryz.prog 45 #[.pointer (some ⟨jb, 0, none⟩), .int .u8 (x.r.1 : Int), .int .i64 x.i.a] y fun e w' => e = .returned (.bool (slotP s x.r.1 x.i.a)) ∧ w' = y) := hide fun y g => slot_any y jb _ s _ (g.cell q8)
  have D1 : Hid (∀ y, G W1 y → Calls Tryz.prog 45 #[.pointer (some ⟨jb, 0, none⟩), .int .u8 (x.r.2.1 : Int), .int .i64 x.i.b] y fun e w' => e = .returned (.bool (slotP s x.r.2.1 x.i.b)) ∧ w' = y) := hide fun y g => slot_any y jb _ s _ (g.cell q8)
  have D2 : Hid (∀ y, G W1 y → Calls Tryz.prog 45 #[.pointer (some ⟨jb, 0, none⟩), .int .u8 (x.r.2.2.1 : Int), .int .i64 x.i.c] y fun e w' => e = .returned (.bool (slotP s x.r.2.2.1 x.i.c)) ∧ w' = y) := hide fun y g => slot_any y jb _ s _ (g.cell q8)
  have D3 : Hid (∀ y, G W1 y → Calls Tryz.prog 45 #[.pointer (some ⟨jb, 0, none⟩), .int .u8 (x.r.2.2.2 : Int), .int .i64 x.i.d] y fun e w' => e = .returned (.bool (slotP s x.r.2.2.2 x.i.d)) ∧ w' = y) := hide fun y g => slot_any y jb _ s _ (g.cell q8)
  have DC : Hid (∀ y (c : Ca), G W1 y → Calls Tryz.prog 46 #[.pointer (some ⟨jb, 0, none⟩), .agg #[.int .i64 c.k, .int .i64 c.c, .int .i64 c.v, .int .i64 c.t]] y fun e w' => e = .returned (.bool (caseP s c)) ∧ G y w') := hide fun y c g => case_any y jb s c (g.cell q8)
  have DR : Hid (∀ y, G W1 y → Calls Tryz.prog 47 #[.pointer (some ⟨jb, 0, none⟩), .agg #[.int .i64 x.first, .int .i64 x.count, kv]] y fun e w' => e = .returned (.bool (runT s x.first x.count)) ∧ G y w') := hide fun y g => runT_any y jb s _ _ kv (g.cell q8) h1
  have RD : Hid (∀ (k : Nat) (wr : World), k < x.cs.length → G W1 wr → ∃ (b off : Nat) (c : Ca), ao = some ⟨b, off, none⟩ ∧ x.cs[k]? = some c ∧ wr.cell? ⟨b, off + k * 4, none⟩ = some (.int .i64 c.k) ∧ wr.cell? ⟨b, off + k * 4 + 1, none⟩ = some (.int .i64 c.c) ∧ wr.cell? ⟨b, off + k * 4 + 2, none⟩ = some (.int .i64 c.v) ∧ wr.cell? ⟨b, off + k * 4 + 3, none⟩ = some (.int .i64 c.t)) := hide fun k wr hk g => by
    obtain ⟨b, off, c, cs, e, ha, ecs, hcs⟩ := row_get hr1 hk
    have ecs : cs = [.int .i64 c.k, .int .i64 c.c, .int .i64 c.v, .int .i64 c.t] := ecs
    subst ecs
    exact ⟨b, off, c, e, ha, hcs wr g 0 _ rfl, hcs wr g 1 _ rfl, hcs wr g 2 _ rfl, hcs wr g 3 _ rfl⟩
  have PF : Hid (∀ k c, x.cs[k]? = some c → caseP s c = false → x.cs.all (caseP s) = false) := hide fun k c hc hf => by
    rw [List.all_eq_false]
    exact ⟨c, List.mem_of_getElem? hc, by rw [hf]; decide⟩
  have PT : Hid ((∀ k c, k < x.cs.length → x.cs[k]? = some c → caseP s c = true) → x.cs.all (caseP s) = true) := hide fun h => by
    rw [List.all_eq_true]
    intro c hc
    obtain ⟨k, hk⟩ := List.getElem?_of_mem hc
    exact h k c (List.getElem?_eq_some_iff.1 hk).1 hk
  rw [slotsP_eq]
  have hu := unhide PF
  clear hu q8 hr1 hs h1 hr
  replace g1 := hide g1
  obtain ⟨⟨op, a, b, c, d⟩, ⟨r0, r1, r2, r3⟩, first, count, ks, cs⟩ := x
  simp only at *
  generalize slotP s r0 a = p0 at D0 ⊢
  generalize slotP s r1 b = p1 at D1 ⊢
  generalize slotP s r2 c = p2 at D2 ⊢
  generalize slotP s r3 d = p3 at D3 ⊢
  generalize runT s first count = pr at DR ⊢
  generalize cs.all (caseP s) = pa at PF PT ⊢
  generalize caseP s = cp at DC PF PT
  have BG : Hid (∀ y, G W1 y → BxI y w.heap.size ⟨⟨op, a, b, c, d⟩, (r0, r1, r2, r3), first, count, ks, cs⟩ kv (.slice ao cs.length ac)) := hide fun y g => B.g g
  clear B
  obtain ⟨c0, c1, c2, c3, c4, c5, c6, c7, c8, c9, c10, c11, c12, c13, c14, c15, c16⟩ := unhide BG W1 (G.refl _)
  simp only at c5 c6 c7 c8 c9 c10 c11 c12 c13 c14 c15 c16
  clear c0 c1 c2 c3 c4
  have ix0 := ix4_0
  have ix1 := ix4_1
  have ix2 := ix4_2
  have ix3 := ix4_3
  go_enter Tryz.func26, Tryz.ntmps26
  go_upto_region 1 with fail
  rw [← hW1]
  clear hW1
  go_wp2_with fail
  go_loopw [11] (fun i wr => wr = W1 ∧ R4k p0 p1 p2 p3 i) (fun i _ => 4 - (intOf i).toNat)
  case atStart => exact ⟨rfl, Or.inl rfl⟩
  case round =>
    obtain ⟨hwr, hk⟩ := hrel
    rw [hwr]
    clear hwr
    rcases hk with rfl | ⟨rfl, e0⟩ | ⟨rfl, e0, e1⟩ | ⟨rfl, e0, e1, e2⟩ | ⟨rfl, e0, e1, e2, e3⟩
    · go_wp2_with fail
      refine (unhide D0 _ (G.refl _)).mono ?_
      rintro e w1 ⟨rfl, hw⟩
      rw [hw]
      clear hw w1
      cases hp : p0
      · subst hp
        go_wp2_with fail
        go_ret
        exact ⟨by simp, unhide g1⟩
      · go_wp2_with fail
        go_roundw
        case rel => exact ⟨by trivial, Or.inr (Or.inl ⟨rfl, hp⟩)⟩
        case measure => simp [intOf]
    · go_wp2_with fail
      refine (unhide D1 _ (G.refl _)).mono ?_
      rintro e w1 ⟨rfl, hw⟩
      rw [hw]
      clear hw w1
      cases hp : p1
      · subst hp
        go_wp2_with fail
        go_ret
        exact ⟨by simp, unhide g1⟩
      · go_wp2_with fail
        go_roundw
        case rel => exact ⟨by trivial, Or.inr (Or.inr (Or.inl ⟨rfl, e0, hp⟩))⟩
        case measure => simp [intOf]
    · go_wp2_with fail
      refine (unhide D2 _ (G.refl _)).mono ?_
      rintro e w1 ⟨rfl, hw⟩
      rw [hw]
      clear hw w1
      cases hp : p2
      · subst hp
        go_wp2_with fail
        go_ret
        exact ⟨by simp, unhide g1⟩
      · go_wp2_with fail
        go_roundw
        case rel => exact ⟨by trivial, Or.inr (Or.inr (Or.inr (Or.inl ⟨rfl, e0, e1, hp⟩)))⟩
        case measure => simp [intOf]
    · go_wp2_with fail
      refine (unhide D3 _ (G.refl _)).mono ?_
      rintro e w1 ⟨rfl, hw⟩
      rw [hw]
      clear hw w1
      cases hp : p3
      · subst hp
        go_wp2_with fail
        go_ret
        exact ⟨by simp, unhide g1⟩
      · go_wp2_with fail
        go_roundw
        case rel => exact ⟨by trivial, Or.inr (Or.inr (Or.inr (Or.inr (⟨rfl, e0, e1, e2, hp⟩))))⟩
        case measure => simp [intOf]
    · subst e0 e1 e2 e3
      clear D0 D1 D2 D3
      go_wp2_with fail
      go_loopw [27] (fun i wr => ∃ k : Nat, k ≤ cs.length ∧ i = .int .i64 (k : Int) ∧ Hid (G W1 wr) ∧ Hid (∀ j cc, j < k → cs[j]? = some cc → cp cc = true)) (fun i _ => cs.length - (intOf i).toNat)
      case atStart => exact ⟨0, Nat.zero_le _, rfl, hide (G.refl _), hide (fun j cc hj => absurd hj (Nat.not_lt_zero _))⟩
      case round =>
        obtain ⟨k, hk, rfl, hg, hall⟩ := hrel
        by_cases hlt : k < cs.length
        · obtain ⟨xb, off, cc, rfl, hcc, d0, d1, d2, d3⟩ := unhide RD k _ hlt (unhide hg)
          have C := hide (unhide DC (_ : World) cc ((unhide hg).more (.cells #[.int .i64 cc.k, .int .i64 cc.c, .int .i64 cc.v, .int .i64 cc.t] 43)))
          have P1 : Hid (cp cc = false → pa = false) := hide (unhide PF k cc hcc)
          have P2 : Hid (cp cc = true → ∀ j c', j < k + 1 → cs[j]? = some c' → cp c' = true) := hide fun h j c' hj hc' => by
            rcases Nat.lt_or_ge j k with h' | h'
            · exact unhide hall j c' h' hc'
            · obtain rfl : j = k := by omega
              rw [hcc] at hc'
              cases hc'
              exact h
          have g2 := hide ((unhide hg).more (.cells #[.int .i64 cc.k, .int .i64 cc.c, .int .i64 cc.v, .int .i64 cc.t] 43))
          have gq := hide ((unhide g1).trans (unhide g2))
          clear hall hcc PF PT DR
          generalize cp cc = q at C P1 P2
          go_wp2_with fail
          refine (unhide C).mono ?_
          rintro e w2 ⟨rfl, hw2⟩
          replace gq := hide ((unhide gq).trans hw2)
          replace g2 := hide ((unhide g2).trans hw2)
          clear C d0 d1 d2 d3 hw2
          cases q
          · have hpa := unhide P1 rfl
            subst hpa
            go_wp2_with fail
            go_ret
            exact ⟨by simp, unhide gq⟩
          · have P3 := unhide P2 rfl
            go_wp2_with fail
            go_roundw
            case rel => exact ⟨k + 1, by omega, by go_num, g2, hide P3⟩
            case measure => simp [intOf]; omega
        · obtain rfl : k = cs.length := by omega
          have hpa := unhide PT (unhide hall)
          subst hpa
          have C := hide (unhide DR _ (unhide hg))
          obtain ⟨c0, c1, c2, c3, c4, c5, c6, c7, c8, c9, c10, c11, c12, c13, c14, c15, c16⟩ := unhide BG _ (unhide hg)
          simp only at c13 c14
          clear hall RD PF PT DC BG c0 c1 c2 c3 c4 c5 c6 c7 c8 c9 c10 c11 c12 c16
          have gq := hide ((unhide g1).trans (unhide hg))
          clear g1 hg
          go_wp2_with fail
          refine (unhide C).mono ?_
          rintro e w2 ⟨rfl, hw2⟩
          have gz := hide ((unhide gq).trans hw2)
          clear C hw2 gq
          go_wp2_with fail
          go_ret
          exact ⟨by simp, unhide gz⟩
end Go.Proofs.YtnliooflpclcbaaGreatDoor

/- Package verify: an item's box of 17 cells, loaded and stored at once (not cell by cell). -/
namespace Go.Proofs.YtnliooflpclcbaaGreatDoor
set_option maxRecDepth 100000
open Go.RowKit Go.Maps Go.ChangeShapes Go.WideShapes Go.ChangeAt Go.Deep

theorem info_item : (Tryz.prog.info? 79).map (·.size) = some 17 := by kernel_rfl
theorem bxi_range {y : World} {b : Nat} {x : It} {kv cv : Value} (h : BxI y b x kv cv) : y.rangeAt b 0 (itL x kv cv).toList := by
  intro j v hj
  rw [Nat.zero_add]
  match j, hj with
  | 0, hj => cases hj; exact h.c0
  | 1, hj => cases hj; exact h.c1
  | 2, hj => cases hj; exact h.c2
  | 3, hj => cases hj; exact h.c3
  | 4, hj => cases hj; exact h.c4
  | 5, hj => cases hj; exact h.c5
  | 6, hj => cases hj; exact h.c6
  | 7, hj => cases hj; exact h.c7
  | 8, hj => cases hj; exact h.c8
  | 9, hj => cases hj; exact h.c9
  | 10, hj => cases hj; exact h.c10
  | 11, hj => cases hj; exact h.c11
  | 12, hj => cases hj; exact h.c12
  | 13, hj => cases hj; exact h.c13
  | 14, hj => cases hj; exact h.c14
  | 15, hj => cases hj; exact h.c15
  | 16, hj => cases hj; exact h.c16
  | j + 17, hj => cases hj
/-- The load of a whole item: one law, whatever its seventeen cells. -/
theorem wpl_ldi {ops : Array Oper} {rest : List Oper} {op : Oper} {a : Act} {w : World} {Q : Exit → Act → World → Prop} (hgd : op.guard = none) (p : Operand) (ho : op.op = .load 79 p) (b : Nat) (x : It) (kv cv : Value) (hx : a.eval p = .pointer (some ⟨b, 0, none⟩)) (h : BxI w b x kv cv)
    (hn : wpList Tryz.prog ops Q rest (a.put op.dst (.agg (itL x kv cv))) w) : wpList Tryz.prog ops Q (op :: rest) a w :=
  wpList_load_mid hgd 79 p ho b 0 hx (itL x kv cv).toList _ (bxi_range h) Tryz.underlying79 rfl info_item (by simpa using hn)
end Go.Proofs.YtnliooflpclcbaaGreatDoor

/- Package verify: casesGood, take. -/
namespace Go.Proofs.YtnliooflpclcbaaGreatDoor
set_option maxRecDepth 100000
open Go.RowKit Go.Maps Go.ChangeShapes Go.WideShapes Go.ChangeAt Go.Deep

/-- What is known behind k cases, dn of them defaults. -/
def CgI (cs : List Ca) (k dn : Nat) : Prop := dn ≤ k ∧ (cs.take k).all goodK = true ∧ ((cs.take k).filter fun c => c.k == 2).length = dn
theorem cg_zero (cs : List Ca) : CgI cs 0 0 := ⟨Nat.le_refl _, by simp, by simp⟩
theorem cg_plain {cs : List Ca} {k dn : Nat} {c : Ca} (h : CgI cs k dn) (hc : cs[k]? = some c) (hk : c.k = 0 ∨ c.k = 1) : CgI cs (k + 1) dn := by
  obtain ⟨h0, h1, h2⟩ := h
  have e : cs.take (k + 1) = cs.take k ++ [c] := by rw [List.take_add_one, hc]; rfl
  have g : goodK c = true := by unfold goodK; rcases hk with h | h <;> simp [h]
  have g2 : (c.k == 2) = false := by rcases hk with h | h <;> simp [h]
  exact ⟨by omega, by rw [e, List.all_append, h1]; simp [g], by rw [e, List.filter_append, List.length_append, h2]; simp [g2]⟩
theorem cg_def {cs : List Ca} {k dn : Nat} {c : Ca} (h : CgI cs k dn) (hc : cs[k]? = some c) (hk : c.k = 2) : CgI cs (k + 1) (dn + 1) := by
  obtain ⟨h0, h1, h2⟩ := h
  have e : cs.take (k + 1) = cs.take k ++ [c] := by rw [List.take_add_one, hc]; rfl
  have g : goodK c = true := by unfold goodK; simp [hk]
  exact ⟨by omega, by rw [e, List.all_append, h1]; simp [g], by rw [e, List.filter_append, List.length_append, h2]; simp [hk]⟩
theorem cg_bad {cs : List Ca} {k : Nat} {c : Ca} (hc : cs[k]? = some c) (h0 : c.k ≠ 0) (h1 : c.k ≠ 1) (h2 : c.k ≠ 2) : casesP' cs = false := by
  have : cs.all goodK = false := by
    rw [List.all_eq_false]
    exact ⟨c, List.mem_of_getElem? hc, by unfold goodK; simp [h0, h1, h2]⟩
  unfold casesP'
  rw [this]
  rfl
theorem cg_end {cs : List Ca} {dn : Nat} (h : CgI cs cs.length dn) : casesP' cs = (decide (0 < cs.length) && decide (dn ≤ 1)) := by
  obtain ⟨-, h1, h2⟩ := h
  rw [List.take_of_length_le (Nat.le_refl _)] at h1 h2
  unfold casesP'
  rw [h1, h2]
  rfl
theorem cg_num {n : Nat} (h : n ≤ 1000000) : wrap64 ((n : Int) + 1) = ((n + 1 : Nat) : Int) := by unfold wrap64; omega
set_option maxHeartbeats 4000000 in
theorem casesGood_any (w : World) (ao : Option Addr) (ac : Nat) (cs : List Ca) (hr : RowAt elCa w ao cs.length ac cs) (hn : cs.length ≤ 1000000) : Calls Tryz.prog 49 #[.slice ao cs.length ac] w fun e w' => e = .returned (.bool (casesP' cs)) ∧ G w w' := by
  have RD : Hid (∀ (k : Nat) (wr : World), k < cs.length → G w wr → ∃ (b off : Nat) (c : Ca), ao = some ⟨b, off, none⟩ ∧ cs[k]? = some c ∧ wr.cell? ⟨b, off + k * 4, none⟩ = some (.int .i64 c.k) ∧ wr.cell? ⟨b, off + k * 4 + 1, none⟩ = some (.int .i64 c.c) ∧ wr.cell? ⟨b, off + k * 4 + 2, none⟩ = some (.int .i64 c.v) ∧ wr.cell? ⟨b, off + k * 4 + 3, none⟩ = some (.int .i64 c.t)) := hide fun k wr hk g => by
    obtain ⟨b, off, c, cs, e, ha, ecs, hcs⟩ := row_get hr hk
    have ecs : cs = [.int .i64 c.k, .int .i64 c.c, .int .i64 c.v, .int .i64 c.t] := ecs
    subst ecs
    exact ⟨b, off, c, e, ha, hcs wr g 0 _ rfl, hcs wr g 1 _ rfl, hcs wr g 2 _ rfl, hcs wr g 3 _ rfl⟩
  clear hr
  go_enter Tryz.func49, Tryz.ntmps49
  go_wp2_with fail
  go_loopw [3, 8] (fun d i wr => ∃ k dn : Nat, k ≤ cs.length ∧ i = .int .i64 (k : Int) ∧ d = .int .i64 (dn : Int) ∧ Hid (G w wr) ∧ Hid (CgI cs k dn)) (fun _ i _ => cs.length - (intOf i).toNat)
  case atStart => exact ⟨0, 0, Nat.zero_le _, rfl, rfl, hide (G.refl _), hide (cg_zero cs)⟩
  case round =>
    obtain ⟨k, dn, hk, rfl, rfl, hg, hI⟩ := hrel
    by_cases hlt : k < cs.length
    · obtain ⟨xb, off, cc, rfl, hcc, d0, d1, d2, d3⟩ := unhide RD k _ hlt (unhide hg)
      have g2 := hide ((unhide hg).more (.cells #[.int .i64 cc.k, .int .i64 cc.c, .int .i64 cc.v, .int .i64 cc.t] 43))
      have hdn : dn ≤ 1000000 := Nat.le_trans (unhide hI).1 (by omega)
      clear hg RD
      obtain ⟨ck, cc1, cv, ct⟩ := cc
      simp only at d0 d1 d2 d3 g2
      by_cases h0 : ck = 0
      · have N1 := hide (cg_plain (unhide hI) hcc (Or.inl h0))
        subst h0
        clear hI hcc hdn
        go_wp2_with fail
        go_roundw
        case rel => exact ⟨k + 1, dn, by omega, by go_num, rfl, g2, N1⟩
        case measure => simp [intOf]; omega
      by_cases h1 : ck = 1
      · have N1 := hide (cg_plain (unhide hI) hcc (Or.inr h1))
        subst h1
        clear hI hcc hdn
        go_wp2_with fail
        go_roundw
        case rel => exact ⟨k + 1, dn, by omega, by go_num, rfl, g2, N1⟩
        case measure => simp [intOf]; omega
      by_cases h2 : ck = 2
      · have N1 := hide (cg_def (unhide hI) hcc h2)
        subst h2
        clear hI hcc
        go_wp2_with fail
        go_roundw
        case rel => exact ⟨k + 1, dn + 1, by omega, by go_num, by go_num, g2, N1⟩
        case measure => simp [intOf]; omega
      have hb := hide (cg_bad hcc h0 h1 h2)
      have e0 : (ck == 0) = false := by simpa using h0
      have e1 : (ck == 1) = false := by simpa using h1
      have e2 : (ck == 2) = false := by simpa using h2
      clear hI hcc hdn h0 h1 h2
      go_wp2_with fail
      go_ret
      exact ⟨by rw [unhide hb]; rfl, unhide g2⟩
    · obtain rfl : k = cs.length := by omega
      have he := hide (cg_end (unhide hI))
      clear hI RD hlt hk
      have hz := hide (unhide he)
      clear he
      generalize hnn : cs.length = n at *
      by_cases h0 : 0 < n
      · have h0' : (0 : Int) < (n : Int) := by omega
        by_cases h1 : dn ≤ 1
        · have h1' : (dn : Int) ≤ 1 := by omega
          go_wp2_with fail
          go_ret
          exact ⟨by rw [unhide hz]; simp [h0, h1], unhide hg⟩
        · have h1' : ¬ (dn : Int) ≤ 1 := by omega
          go_wp2_with fail
          go_ret
          exact ⟨by rw [unhide hz]; simp [h0, h1], unhide hg⟩
      · have h0' : ¬ (0 : Int) < (n : Int) := by omega
        go_wp2_with fail
        go_ret
        exact ⟨by rw [unhide hz]; simp [h0], unhide hg⟩
/-- All is as it was but the block tb. -/
structure Gt (tb : Nat) (w w' : World) : Prop where
  os : w'.os = w.os
  tape : w'.tape = w.tape
  output : w'.output = w.output
  size : w.heap.size ≤ w'.heap.size
  block : ∀ b, b < w.heap.size → b ≠ tb → w'.heap[b]? = w.heap[b]?
theorem Gt.refl (tb : Nat) (w : World) : Gt tb w w := ⟨rfl, rfl, rfl, Nat.le_refl _, fun _ _ _ => rfl⟩
theorem Gt.trans {tb : Nat} {a b c : World} (h : Gt tb a b) (k : Gt tb b c) : Gt tb a c :=
  ⟨k.os.trans h.os, k.tape.trans h.tape, k.output.trans h.output, Nat.le_trans h.size k.size, fun i hi hn => (k.block i (Nat.lt_of_lt_of_le hi h.size) hn).trans (h.block i hi hn)⟩
theorem G.gt {tb : Nat} {w w' : World} (g : G w w') : Gt tb w w' := ⟨g.os, g.tape, g.output, g.size, fun b hb _ => g.block b hb⟩
theorem Gt.to_g {tb : Nat} {w0 w w' : World} (g : G w0 w) (h : Gt tb w w') (hb : w0.heap.size ≤ tb) : G w0 w' :=
  ⟨h.os.trans g.os, h.tape.trans g.tape, h.output.trans g.output, Nat.le_trans g.size h.size, fun b hlt => (h.block b (Nat.lt_of_lt_of_le hlt g.size) (by omega)).trans (g.block b hlt)⟩
theorem Gt.cell {tb : Nat} {w w' : World} (h : Gt tb w w') {b i : Nat} {v : Value} (hc : w.cell? ⟨b, i, none⟩ = some v) (hb : b < w.heap.size) (hn : b ≠ tb) : w'.cell? ⟨b, i, none⟩ = some v :=
  (World.cell?_of_block (a := ⟨b, i, none⟩) (h.block b hb hn)).trans hc
theorem Gt.kx {tb : Nat} {w w' : World} (h : Gt tb w w') : Kx 0 tb none w w' := ⟨fun b _ hb hn _ => h.block b hb hn, h.size⟩
/-- The row of what is taken. -/
structure TkAt (w : World) (tb N : Nat) (tk : Nat → Bool) : Prop where
  lt : tb < w.heap.size
  c : ∀ i, i < N → w.cell? ⟨tb, i, none⟩ = some (.bool (tk i)) ∧ w.frozen? ⟨tb, i, none⟩ = false
theorem TkAt.g {w w' : World} {tb N : Nat} {tk : Nat → Bool} (h : TkAt w tb N tk) (g : G w w') : TkAt w' tb N tk :=
  ⟨Nat.lt_of_lt_of_le h.lt g.size, fun i hi => ⟨g.cell (h.c i hi).1, (World.frozen?_of_block (a := ⟨tb, i, none⟩) (g.block tb h.lt)).trans (h.c i hi).2⟩⟩
def setTk (tk : Nat → Bool) (a k : Nat) : Nat → Bool := fun i => if a ≤ i ∧ i < a + k then true else tk i
theorem setTk_zero (tk : Nat → Bool) (a : Nat) : setTk tk a 0 = tk := by
  funext i; unfold setTk; rw [if_neg (by omega)]
theorem TkAt.set {w : World} {tb N : Nat} {tk : Nat → Bool} {a k : Nat} (h : TkAt w tb N (setTk tk a k)) (hk : a + k < N) : TkAt (w.setCell ⟨tb, a + k, none⟩ (.bool true)) tb N (setTk tk a (k + 1)) ∧ Gt tb w (w.setCell ⟨tb, a + k, none⟩ (.bool true)) := by
  refine ⟨⟨by rw [World.size_setCell]; exact h.lt, fun i hi => ⟨?_, by rw [World.frozen?_setCell]; exact (h.c i hi).2⟩⟩, ⟨rfl, rfl, rfl, by rw [World.size_setCell]; exact Nat.le_refl _, fun b _ hn => heap_set _ _ hn⟩⟩
  by_cases e : i = a + k
  · subst e
    rw [cell_same _ (h.c _ hk).1]
    unfold setTk
    rw [if_pos (by omega)]
  · rw [cell_other _ (Or.inr e), (h.c i hi).1]
    unfold setTk
    by_cases h1 : a ≤ i ∧ i < a + k
    · rw [if_pos h1, if_pos (by omega)]
    · rw [if_neg h1, if_neg (by omega)]
/-- What take answers. -/
def TkTo (w : World) (tb N : Nat) (tk : Nat → Bool) (a n : Nat) (e : Ending) (w' : World) : Prop :=
  ((e = .returned (.bool true) ∧ (∀ j, j < n → tk (a + j) = false) ∧ TkAt w' tb N (setTk tk a n)) ∨ (e = .returned (.bool false) ∧ (∃ j, j < n ∧ tk (a + j) = true) ∧ ∃ tk', TkAt w' tb N tk')) ∧ Gt tb w w'
set_option maxHeartbeats 4000000 in
theorem take_any (w : World) (jb tb N c : Nat) (tk : Nat → Bool) (a n : Nat) (hj : w.cell? ⟨jb, 15, none⟩ = some (.slice (some ⟨tb, 0, none⟩) N c)) (h : TkAt w tb N tk) (hc : N ≤ c) (hN : c ≤ 1000000) (han : a + n ≤ N) (hn1 : 1 ≤ n) : Calls Tryz.prog 50 #[.pointer (some ⟨jb, 0, none⟩), .int .i64 (a : Int), .int .i64 (n : Int)] w (TkTo w tb N tk a n) := by
  have RD : Hid (∀ (k : Nat) (wr : World), k < n → TkAt wr tb N (setTk tk a k) → wr.cell? ⟨tb, a + k, none⟩ = some (.bool (tk (a + k))) ∧ wr.frozen? ⟨tb, a + k, none⟩ = false) := hide fun k wr hk H => by
    have h1 := H.c (a + k) (by omega)
    refine ⟨h1.1.trans ?_, h1.2⟩
    unfold setTk
    rw [if_neg (by omega)]
  have KT : Hid (∀ wr, TkAt wr tb N (setTk tk a n) → Gt tb w wr → (∀ j, j < n → tk (a + j) = false) → TkTo w tb N tk a n (.returned (.bool true)) wr) := hide fun wr h1 h2 h3 => ⟨Or.inl ⟨rfl, h3, h1⟩, h2⟩
  have KF : Hid (∀ wr k, k < n → TkAt wr tb N (setTk tk a k) → Gt tb w wr → tk (a + k) = true → TkTo w tb N tk a n (.returned (.bool false)) wr) := hide fun wr k hk h1 h2 h3 => ⟨Or.inr ⟨rfl, ⟨k, hk, h3⟩, _, h1⟩, h2⟩
  have S0 : Hid (TkAt w tb N (setTk tk a 0)) := hide (by rw [setTk_zero]; exact h)
  have e1 : wrap64 ((a : Int) + (n : Int)) = ((a + n : Nat) : Int) := by unfold wrap64; omega
  have h4 : (a : Int) + (n : Int) ≤ (c : Int) := by omega
  have hlc : (a : Int) < (c : Int) := by omega
  have hlc2 : a < c := by omega
  have hA : ¬ (a : Int) < 0 := by omega
  have hB : ¬ (n : Int) < 0 := by omega
  clear h
  go_enter Tryz.func50, Tryz.ntmps50
  go_wp2_with fail
  go_loopw [21] (fun i wr => ∃ k : Nat, k ≤ n ∧ i = .int .i64 (k : Int) ∧ Hid (Gt tb w wr) ∧ Hid (TkAt wr tb N (setTk tk a k)) ∧ Hid (∀ j, j < k → tk (a + j) = false)) (fun i _ => n - (intOf i).toNat)
  case atStart => exact ⟨0, Nat.zero_le _, rfl, hide (Gt.refl _ _), S0, hide (fun j hj => absurd hj (Nat.not_lt_zero _))⟩
  case round =>
    obtain ⟨k, hk, rfl, hg, hT, hall⟩ := hrel
    by_cases hlt : k < n
    · obtain ⟨c0, c1⟩ := unhide RD k _ hlt (unhide hT)
      have N1 := hide ((unhide hT).set (show a + k < N by omega))
      have KF1 : Hid (tk (a + k) = true → TkTo w tb N tk a n (.returned (.bool false)) wr) := hide (unhide KF wr k hlt (unhide hT) (unhide hg))
      have N2 : Hid (tk (a + k) = false → ∀ j, j < k + 1 → tk (a + j) = false) := hide fun h j hj => by
        rcases Nat.lt_or_ge j k with h' | h'
        · exact unhide hall j h'
        · obtain rfl : j = k := by omega
          exact h
      clear RD KT KF hT hall
      generalize tk (a + k) = q at c0 KF1 N2
      cases q
      · have N3 := hide (unhide N2 rfl)
        clear KF1 N2
        go_wp2_with fail
        go_roundw
        case rel => exact ⟨k + 1, by omega, by go_num, hide ((unhide hg).trans (unhide N1).2), hide (unhide N1).1, N3⟩
        case measure => simp [intOf]; omega
      · have K := hide (unhide KF1 rfl)
        clear KF1 N2
        go_wp2_with fail
        refine bodyPost_ret (by simp [results, Tryz.results50, go_sem]; try rfl) rfl ?_
        exact unhide K
    · obtain rfl : k = n := by omega
      have K := hide (unhide KT wr (unhide hT) (unhide hg) (unhide hall))
      clear KT KF RD hall hT hg
      go_wp2_with fail
      refine bodyPost_ret (by simp [results, Tryz.results50, go_sem]; try rfl) rfl ?_
      exact unhide K
end Go.Proofs.YtnliooflpclcbaaGreatDoor

/- Package verify: targets. -/
namespace Go.Proofs.YtnliooflpclcbaaGreatDoor
set_option maxRecDepth 100000
open Go.RowKit Go.Maps Go.ChangeShapes Go.WideShapes Go.ChangeAt Go.Deep

/-- One more int. -/
theorem own_one {x : World} {B : Nat} {v : Value} {l : List Int} (h : OwnL x B v l) (hB : B ≤ x.heap.size) (hn : l.length < 1000000) (a : Int) :
    ∃ v' w', (Builtin.append_ #[55, 55] 55 #[v, .slice (some ⟨x.heap.size, 0, none⟩) 1 1]).run Tryz.prog (x.alloc (.cells #[.int .i64 a] 3)) = .ok v' w' ∧ OwnL w' B v' (l ++ [a]) ∧ Below B x w' := by
  have g := G.alloc x (.cells #[.int .i64 a] 3)
  have own2 : OwnL (x.alloc (.cells #[.int .i64 a] 3)) B v l := own_kept h (fun q _ hq => g.block q hq)
  have hv : IsL (x.alloc (.cells #[.int .i64 a] 3)) (.slice (some ⟨x.heap.size, 0, none⟩) 1 1) [a] := isl_new x [a] (by show 1 ≤ maxLen; decide)
  obtain ⟨v', w', r1, r2, r3⟩ := own_app own2 (Nat.le_trans hB g.size) hv (by simp; omega)
  exact ⟨v', w', r1, r2, Below.trans (⟨g.os, g.tape, g.output, g.size, fun k hk => g.block k (Nat.lt_of_lt_of_le hk hB)⟩) r3⟩
theorem targP_eq (x : It) : targP x = (tg4 x 0 ++ (tg4 x 1 ++ (tg4 x 2 ++ tg4 x 3))) ++ x.cs.map fun c => c.t := rfl
theorem tg_yes (x : It) (k : Nat) (h : roleAt x.r k = 15) : tg4 x k = [operAt x.i k] := if_pos h
theorem tg_no (x : It) (k : Nat) (h : ¬ roleAt x.r k = 15) : tg4 x k = [] := if_neg h
set_option maxHeartbeats 4000000 in
theorem vtargets_any (w : World) (x : It) (kv : Value) (ao : Option Addr) (ac : Nat) (hr : RowAt elCa w ao x.cs.length ac x.cs) (hn : x.cs.length ≤ 100000) :
    Calls Tryz.prog 53 #[.agg (itL x kv (.slice ao x.cs.length ac))] w (LTo w (targP x)) := by
  obtain ⟨W1, hW1⟩ : ∃ W1, W1 = w.alloc (.cells (itL x kv (.slice ao x.cs.length ac)) 79) := ⟨_, rfl⟩
  have B := bxi_new w x kv (.slice ao x.cs.length ac)
  rw [← hW1] at B
  have g1 : G w W1 := by rw [hW1]; exact G.alloc _ _
  have hr1 := hr.g okCa g1
  have y0 := tg_yes x 0
  have y1 := tg_yes x 1
  have y2 := tg_yes x 2
  have y3 := tg_yes x 3
  have n0 := tg_no x 0
  have n1 := tg_no x 1
  have n2 := tg_no x 2
  have n3 := tg_no x 3
  rw [targP_eq]
  have RD : Hid (∀ (k : Nat) (wr : World), k < x.cs.length → G W1 wr → ∃ (b off : Nat) (c : Ca), ao = some ⟨b, off, none⟩ ∧ x.cs[k]? = some c ∧ wr.cell? ⟨b, off + k * 4, none⟩ = some (.int .i64 c.k) ∧ wr.cell? ⟨b, off + k * 4 + 1, none⟩ = some (.int .i64 c.c) ∧ wr.cell? ⟨b, off + k * 4 + 2, none⟩ = some (.int .i64 c.v) ∧ wr.cell? ⟨b, off + k * 4 + 3, none⟩ = some (.int .i64 c.t)) := hide fun k wr hk g => by
    obtain ⟨b, off, c, cs, e, ha, ecs, hcs⟩ := row_get hr1 hk
    have ecs : cs = [.int .i64 c.k, .int .i64 c.c, .int .i64 c.v, .int .i64 c.t] := ecs
    subst ecs
    exact ⟨b, off, c, e, ha, hcs wr g 0 _ rfl, hcs wr g 1 _ rfl, hcs wr g 2 _ rfl, hcs wr g 3 _ rfl⟩
  clear hr1 hr
  generalize tg4 x 0 = t0 at *
  generalize tg4 x 1 = t1 at *
  generalize tg4 x 2 = t2 at *
  generalize tg4 x 3 = t3 at *
  obtain ⟨⟨op, a, b, c, d⟩, ⟨r0, r1, r2, r3⟩, first, count, ks, cs⟩ := x
  simp only [roleAt, operAt] at *
  have l0 : t0.length ≤ 1 := by by_cases h : r0 = 15 <;> simp_all
  have l1 : t1.length ≤ 1 := by by_cases h : r1 = 15 <;> simp_all
  have l2 : t2.length ≤ 1 := by by_cases h : r2 = 15 <;> simp_all
  have l3 : t3.length ≤ 1 := by by_cases h : r3 = 15 <;> simp_all
  replace y0 := hide y0
  replace y1 := hide y1
  replace y2 := hide y2
  replace y3 := hide y3
  replace n0 := hide n0
  replace n1 := hide n1
  replace n2 := hide n2
  replace n3 := hide n3
  replace g1 := hide g1
  have BG : Hid (∀ y, G W1 y → BxI y w.heap.size ⟨⟨op, a, b, c, d⟩, (r0, r1, r2, r3), first, count, ks, cs⟩ kv (.slice ao cs.length ac)) := hide fun y g => B.g g
  have FI : Hid (∀ wr v, OwnL wr W1.heap.size v ((t0 ++ (t1 ++ (t2 ++ t3))) ++ (cs.take cs.length).map fun c => c.t) → G W1 wr → LTo w ((t0 ++ (t1 ++ (t2 ++ t3))) ++ cs.map fun c => c.t) (.returned v) wr) := hide fun wr v h1 h2 => by
    rw [List.take_of_length_le (Nat.le_refl _)] at h1
    exact ⟨v, rfl, h1.isl, (unhide g1).trans h2⟩
  have APP : Hid (∀ wr v l aa, OwnL wr W1.heap.size v l → G W1 wr → l.length < 1000000 → ∃ v' w', (Builtin.append_ #[55, 55] 55 #[v, .slice (some ⟨wr.heap.size, 0, none⟩) 1 1]).run Tryz.prog (wr.alloc (.cells #[.int .i64 aa] 3)) = .ok v' w' ∧ (OwnL w' W1.heap.size v' (l ++ [aa]) ∧ G W1 w')) := hide fun wr v l aa h1 h2 h3 => by
    obtain ⟨v', w', q1, q2, q3⟩ := own_one h1 h2.size h3 aa
    exact ⟨v', w', q1, q2, Below.trans h2 q3⟩
  clear B
  have ix0 := ix4_0
  have ix1 := ix4_1
  have ix2 := ix4_2
  have ix3 := ix4_3
  obtain ⟨c0, c1, c2, c3, c4, c5, c6, c7, c8, c9, c10, c11, c12, c13, c14, c15, c16⟩ := unhide BG W1 (G.refl _)
  simp only at c9 c10 c11 c12
  clear c0 c1 c2 c3 c4 c5 c6 c7 c8 c13 c14 c15 c16
  go_enter Tryz.func53, Tryz.ntmps53
  go_upto_region 1 with fail
  rw [← hW1]
  clear hW1
  go_wp2_with fail
  clear c9 c10 c11 c12
  go_loopw [3, 10] (fun v i wr => Hid (G W1 wr) ∧ ((i = .int .i64 0 ∧ Hid (OwnL wr W1.heap.size v [])) ∨ (i = .int .i64 1 ∧ Hid (OwnL wr W1.heap.size v t0)) ∨ (i = .int .i64 2 ∧ Hid (OwnL wr W1.heap.size v (t0 ++ t1))) ∨ (i = .int .i64 3 ∧ Hid (OwnL wr W1.heap.size v (t0 ++ (t1 ++ t2)))) ∨ (i = .int .i64 4 ∧ Hid (OwnL wr W1.heap.size v (t0 ++ (t1 ++ (t2 ++ t3))))))) (fun _ i _ => 4 - (intOf i).toNat)
  case atStart => exact ⟨hide (G.refl _), Or.inl ⟨rfl, hide (ownl_nil _ _)⟩⟩
  case round =>
    obtain ⟨hg, hk⟩ := hrel
    rcases hk with ⟨rfl, hO⟩ | ⟨rfl, hO⟩ | ⟨rfl, hO⟩ | ⟨rfl, hO⟩ | ⟨rfl, hO⟩
    · obtain ⟨c0, c1, c2, c3, c4, c5, c6, c7, c8, c9, c10, c11, c12, c13, c14, c15, c16⟩ := unhide BG _ (unhide hg)
      simp only at c5
      by_cases h15 : r0 = 15
      · have e15 : ((r0 : Int) == 15) = true := by simp [h15]
        have et := unhide y0 h15
        obtain ⟨v', w2, hrun, HO⟩ := unhide APP _ _ _ a (unhide hO) (unhide hg) (by first | omega | (simp; done) | (simp only [List.length_append]; omega))
        have HO2 : Hid (OwnL w2 W1.heap.size v' t0) := hide (by
          have h := HO.1
          rw [et]
          simpa using h)
        have HG := hide HO.2
        clear HO et hO c0 c1 c2 c3 c4 c9 c10 c11 c12 c13 c14 c15 c16 h15 hg
        go_wp2_with (at_builtin; refine wpl_run rfl (.tmp 16) (.tmp 21) 55 rfl _ _ rfl rfl _ _ hrun ?_; clear hrun)
        go_roundw
        case rel => exact ⟨HG, Or.inr (Or.inl ⟨rfl, HO2⟩)⟩
        case measure => simp [intOf]
      · have e15 : ((r0 : Int) == 15) = false := by simp; omega
        have et := unhide n0 h15
        have HO2 : Hid (OwnL wr W1.heap.size _ t0) := hide (by
          have h := unhide hO
          rw [et]
          simpa using h)
        clear et hO c0 c1 c2 c3 c4 c9 c10 c11 c12 c13 c14 c15 c16 h15
        go_wp2_with fail
        go_roundw
        case rel => exact ⟨hg, Or.inr (Or.inl ⟨rfl, HO2⟩)⟩
        case measure => simp [intOf]
    · obtain ⟨c0, c1, c2, c3, c4, c5, c6, c7, c8, c9, c10, c11, c12, c13, c14, c15, c16⟩ := unhide BG _ (unhide hg)
      simp only at c6
      by_cases h15 : r1 = 15
      · have e15 : ((r1 : Int) == 15) = true := by simp [h15]
        have et := unhide y1 h15
        obtain ⟨v', w2, hrun, HO⟩ := unhide APP _ _ _ b (unhide hO) (unhide hg) (by first | omega | (simp; done) | (simp only [List.length_append]; omega))
        have HO2 : Hid (OwnL w2 W1.heap.size v' (t0 ++ t1)) := hide (by
          have h := HO.1
          rw [et]
          simpa using h)
        have HG := hide HO.2
        clear HO et hO c0 c1 c2 c3 c4 c9 c10 c11 c12 c13 c14 c15 c16 h15 hg
        go_wp2_with (at_builtin; refine wpl_run rfl (.tmp 16) (.tmp 21) 55 rfl _ _ rfl rfl _ _ hrun ?_; clear hrun)
        go_roundw
        case rel => exact ⟨HG, Or.inr (Or.inr (Or.inl ⟨rfl, HO2⟩))⟩
        case measure => simp [intOf]
      · have e15 : ((r1 : Int) == 15) = false := by simp; omega
        have et := unhide n1 h15
        have HO2 : Hid (OwnL wr W1.heap.size _ (t0 ++ t1)) := hide (by
          have h := unhide hO
          rw [et]
          simpa using h)
        clear et hO c0 c1 c2 c3 c4 c9 c10 c11 c12 c13 c14 c15 c16 h15
        go_wp2_with fail
        go_roundw
        case rel => exact ⟨hg, Or.inr (Or.inr (Or.inl ⟨rfl, HO2⟩))⟩
        case measure => simp [intOf]
    · obtain ⟨c0, c1, c2, c3, c4, c5, c6, c7, c8, c9, c10, c11, c12, c13, c14, c15, c16⟩ := unhide BG _ (unhide hg)
      simp only at c7
      by_cases h15 : r2 = 15
      · have e15 : ((r2 : Int) == 15) = true := by simp [h15]
        have et := unhide y2 h15
        obtain ⟨v', w2, hrun, HO⟩ := unhide APP _ _ _ c (unhide hO) (unhide hg) (by first | omega | (simp; done) | (simp only [List.length_append]; omega))
        have HO2 : Hid (OwnL w2 W1.heap.size v' (t0 ++ (t1 ++ t2))) := hide (by
          have h := HO.1
          rw [et]
          simpa using h)
        have HG := hide HO.2
        clear HO et hO c0 c1 c2 c3 c4 c9 c10 c11 c12 c13 c14 c15 c16 h15 hg
        go_wp2_with (at_builtin; refine wpl_run rfl (.tmp 16) (.tmp 21) 55 rfl _ _ rfl rfl _ _ hrun ?_; clear hrun)
        go_roundw
        case rel => exact ⟨HG, Or.inr (Or.inr (Or.inr (Or.inl ⟨rfl, HO2⟩)))⟩
        case measure => simp [intOf]
      · have e15 : ((r2 : Int) == 15) = false := by simp; omega
        have et := unhide n2 h15
        have HO2 : Hid (OwnL wr W1.heap.size _ (t0 ++ (t1 ++ t2))) := hide (by
          have h := unhide hO
          rw [et]
          simpa using h)
        clear et hO c0 c1 c2 c3 c4 c9 c10 c11 c12 c13 c14 c15 c16 h15
        go_wp2_with fail
        go_roundw
        case rel => exact ⟨hg, Or.inr (Or.inr (Or.inr (Or.inl ⟨rfl, HO2⟩)))⟩
        case measure => simp [intOf]
    · obtain ⟨c0, c1, c2, c3, c4, c5, c6, c7, c8, c9, c10, c11, c12, c13, c14, c15, c16⟩ := unhide BG _ (unhide hg)
      simp only at c8
      by_cases h15 : r3 = 15
      · have e15 : ((r3 : Int) == 15) = true := by simp [h15]
        have et := unhide y3 h15
        obtain ⟨v', w2, hrun, HO⟩ := unhide APP _ _ _ d (unhide hO) (unhide hg) (by first | omega | (simp; done) | (simp only [List.length_append]; omega))
        have HO2 : Hid (OwnL w2 W1.heap.size v' (t0 ++ (t1 ++ (t2 ++ t3)))) := hide (by
          have h := HO.1
          rw [et]
          simpa using h)
        have HG := hide HO.2
        clear HO et hO c0 c1 c2 c3 c4 c9 c10 c11 c12 c13 c14 c15 c16 h15 hg
        go_wp2_with (at_builtin; refine wpl_run rfl (.tmp 16) (.tmp 21) 55 rfl _ _ rfl rfl _ _ hrun ?_; clear hrun)
        go_roundw
        case rel => exact ⟨HG, Or.inr (Or.inr (Or.inr (Or.inr (⟨rfl, HO2⟩))))⟩
        case measure => simp [intOf]
      · have e15 : ((r3 : Int) == 15) = false := by simp; omega
        have et := unhide n3 h15
        have HO2 : Hid (OwnL wr W1.heap.size _ (t0 ++ (t1 ++ (t2 ++ t3)))) := hide (by
          have h := unhide hO
          rw [et]
          simpa using h)
        clear et hO c0 c1 c2 c3 c4 c9 c10 c11 c12 c13 c14 c15 c16 h15
        go_wp2_with fail
        go_roundw
        case rel => exact ⟨hg, Or.inr (Or.inr (Or.inr (Or.inr (⟨rfl, HO2⟩))))⟩
        case measure => simp [intOf]
    · have hl4 : (t0 ++ (t1 ++ (t2 ++ t3))).length ≤ 4 := by simp only [List.length_append]; omega
      clear y0 y1 y2 y3 n0 n1 n2 n3 l0 l1 l2 l3
      generalize hTT : (t0 ++ (t1 ++ (t2 ++ t3))) = T at *
      obtain ⟨c0, c1, c2, c3, c4, c5, c6, c7, c8, c9, c10, c11, c12, c13, c14, c15, c16⟩ := unhide BG _ (unhide hg)
      clear c0 c1 c2 c3 c4 c5 c6 c7 c8 c9 c10 c11 c12 c13 c14 c15 BG
      go_wp2_with fail
      clear c16
      go_loopw [3, 27] (fun v i wr => ∃ k : Nat, k ≤ cs.length ∧ i = .int .i64 (k : Int) ∧ Hid (G W1 wr) ∧ Hid (OwnL wr W1.heap.size v (T ++ (cs.take k).map fun c => c.t))) (fun _ i _ => cs.length - (intOf i).toNat)
      case atStart => exact ⟨0, Nat.zero_le _, rfl, hg, hide (by simpa using unhide hO)⟩
      case round =>
        obtain ⟨k, hk, rfl, hg2, hO2⟩ := hrel
        by_cases hlt : k < cs.length
        · obtain ⟨xb, off, cc, rfl, hcc, d0, d1, d2, d3⟩ := unhide RD k _ hlt (unhide hg2)
          obtain ⟨Wc, hWc⟩ : ∃ Wc, Wc = wr.alloc (.cells #[.int .i64 cc.k, .int .i64 cc.c, .int .i64 cc.v, .int .i64 cc.t] 43) := ⟨_, rfl⟩
          have gc : G wr Wc := by rw [hWc]; exact G.alloc _ _
          have q3 : Wc.cell? ⟨wr.heap.size, 3, none⟩ = some (.int .i64 cc.t) := by rw [hWc, World.cell?_alloc_new]; rfl
          have gg := (unhide hg2).trans gc
          have ow : OwnL Wc W1.heap.size u3 (T ++ (cs.take k).map fun c => c.t) := own_kept (unhide hO2) (fun q _ hq => gc.block q hq)
          obtain ⟨v', w2, hrun, HO⟩ := unhide APP _ _ _ cc.t ow gg (by simp only [List.length_append, List.length_map, List.length_take]; omega)
          have et : (cs.take (k + 1)).map (fun c => c.t) = (cs.take k).map (fun c => c.t) ++ [cc.t] := by rw [List.take_add_one, hcc]; simp
          have HO2 : Hid (OwnL w2 W1.heap.size v' (T ++ (cs.take (k + 1)).map fun c => c.t)) := hide (by
            have h := HO.1
            rw [et, ← List.append_assoc]
            exact h)
          have HG := hide HO.2
          clear HO et hO hO2 ow gg hcc FI RD APP gc
          go_upto_region 11 with fail
          rw [← hWc]
          clear hWc d0 d1 d2 d3
          go_wp2_with (at_builtin; refine wpl_run rfl (.tmp 31) (.tmp 34) 55 rfl _ _ rfl rfl _ _ hrun ?_; clear hrun)
          go_roundw
          case rel => exact ⟨k + 1, by omega, by go_num, HG, HO2⟩
          case measure => simp [intOf]; omega
        · obtain rfl : k = cs.length := by omega
          have K := hide (unhide FI _ _ (unhide hO2) (unhide hg2))
          clear FI RD APP hO2 hg2
          go_wp2_with fail
          refine bodyPost_ret (by simp [results, Tryz.results53, go_sem]; try rfl) rfl ?_
          have K2 := unhide K
          rw [← hTT] at K2
          exact K2
end Go.Proofs.YtnliooflpclcbaaGreatDoor

/- Package verify: argumentsOf, runOf, casesOf, itemOf: of the Ops 18, 20, 22, 41, 43. -/
namespace Go.Proofs.YtnliooflpclcbaaGreatDoor
set_option maxRecDepth 100000
open Go.RowKit Go.Maps Go.ChangeShapes Go.WideShapes Go.ChangeAt Go.Deep

/-- Cases are answered that lay there already. -/
def CaS (B x : World) (l : List Ca) (e : Ending) (w' : World) : Prop := ∃ ao c, e = .returned (.slice ao l.length c) ∧ (∀ y, G B y → RowAt elCa y ao l.length c l) ∧ G x w'
set_option maxHeartbeats 2000000 in
theorem vcases_any (W0 w : World) (m : Md) (so : Option Addr) (sc : Nat) (go : Option Addr) (gc : Nat) (co : Option Addr) (cc : Nat) (ao : Option Addr) (ac : Nat) (fo : Option Addr) (fc : Nat) (h : ModR W0 m so sc go gc co cc ao ac fo fc) (i : In) (hop : i.op = 41) (oa : oI i.a) :
    Calls Tryz.prog 44 #[agM m so sc go gc co cc ao ac fo fc, agI i] w (CaS W0 w (casesP m i.a i.b)) := by
  unfold agM agI
  obtain ⟨op, A, B, C, D⟩ := i
  simp only at hop
  subst hop
  have hmx := h.r4.2.1
  simp only at oa ⊢
  by_cases hbad : A < 0 ∨ B < 0 ∨ (m.ca.length : Int) - A < B
  · have K : Hid (∀ x, G w x → CaS W0 w (casesP m A B) (.returned (.slice none 0 0)) x) := hide (fun x g => by
      unfold casesP
      rw [if_pos hbad]
      exact ⟨none, 0, rfl, fun y _ => RowAt.nil y, g⟩)
    have hsub : wrap64 ((m.ca.length : Int) - A) = (m.ca.length : Int) - A ∨ A < 0 := by
      by_cases hA : A < 0
      · exact Or.inr hA
      · left
        obtain ⟨o1, o2⟩ := oa
        unfold maxLen at hmx
        unfold wrap64
        omega
    by_cases hA : A < 0
    · clear hbad h hsub
      go_enter Tryz.func44, Tryz.ntmps44
      go_wp2_with fail
      refine bodyPost_ret (by simp [results, Tryz.results44, go_sem]; try rfl) rfl ?_
      exact unhide K _ ((G.alloc _ _).more _)
    · by_cases hB : B < 0
      · clear hbad h hsub
        go_enter Tryz.func44, Tryz.ntmps44
        go_wp2_with fail
        refine bodyPost_ret (by simp [results, Tryz.results44, go_sem]; try rfl) rfl ?_
        exact unhide K _ ((G.alloc _ _).more _)
      · have h3 : (m.ca.length : Int) - A < B := by omega
        have hs : wrap64 ((m.ca.length : Int) - A) = (m.ca.length : Int) - A := by omega
        clear hbad h hsub
        go_enter Tryz.func44, Tryz.ntmps44
        go_wp2_with fail
        refine bodyPost_ret (by simp [results, Tryz.results44, go_sem]; try rfl) rfl ?_
        exact unhide K _ ((G.alloc _ _).more _)
  · obtain ⟨a, rfl⟩ : ∃ a : Nat, A = a := ⟨A.toNat, by omega⟩
    obtain ⟨d, rfl⟩ : ∃ d : Nat, B = d := ⟨B.toNat, by omega⟩
    have had : a + d ≤ m.ca.length := by omega
    have hcap := h.cap
    have hn : casesP m (a : Int) (d : Int) = (m.ca.drop a).take d := by
      unfold casesP
      rw [if_neg hbad, Int.toNat_natCast, Int.toNat_natCast]
    have hlen : ((m.ca.drop a).take d).length = d := by rw [List.length_take, List.length_drop]; omega
    have hA : ¬ (a : Int) < 0 := by omega
    have hB : ¬ (d : Int) < 0 := by omega
    unfold maxLen at hmx
    have hs : wrap64 ((m.ca.length : Int) - a) = (m.ca.length : Int) - a := by unfold wrap64; omega
    have hs2 : wrap64 ((a : Int) + d) = ((a + d : Nat) : Int) := by unfold wrap64; omega
    have h3 : ¬ (m.ca.length : Int) - a < d := by omega
    have h4 : (a : Int) + d ≤ ac := by omega
    cases ao with
    | none =>
      have hac : ac = 0 := h.r4.2.2.1 rfl
      obtain rfl : a = 0 := by omega
      obtain rfl : d = 0 := by omega
      subst hac
      have K : Hid (∀ x, G w x → CaS W0 w (casesP m (0 : Nat) (0 : Nat)) (.returned (.slice none 0 0)) x) := hide (fun x g => by rw [hn]; exact ⟨none, 0, rfl, fun y _ => RowAt.nil y, g⟩)
      clear h hn hbad
      go_enter Tryz.func44, Tryz.ntmps44
      go_wp2_with fail
      refine bodyPost_ret (by simp [results, Tryz.results44, go_sem]; try rfl) rfl ?_
      exact unhide K _ ((G.alloc _ _).more _)
    | some ad =>
      have hspot : m.ca.length = 0 ∨ ∃ b off, ad = ⟨b, off, none⟩ := by
        rcases h.r4.2.2.2 with h0 | ⟨b, off, e, _⟩
        · exact Or.inl h0
        · cases e; exact Or.inr ⟨b, off, rfl⟩
      rcases hspot with hz | ⟨b, off, rfl⟩
      · obtain rfl : a = 0 := by omega
        obtain rfl : d = 0 := by omega
        have hnil : m.ca = [] := List.eq_nil_of_length_eq_zero hz
        have K : Hid (∀ x (a' : Addr) c, G w x → CaS W0 w (casesP m (0 : Nat) (0 : Nat)) (.returned (.slice (some a') 0 c)) x) := hide (fun x a' c g => by rw [hn]; exact ⟨some a', c, rfl, fun y _ => ⟨rfl, Nat.zero_le _, (fun e => by cases e), Or.inl rfl⟩, g⟩)
        rw [hz] at h3 hs
        rw [hz]
        clear h hn hbad hlen hz hnil hmx had hcap
        go_enter Tryz.func44, Tryz.ntmps44
        go_wp2_with fail
        all_goals
          refine bodyPost_ret (by simp [results, Tryz.results44, go_sem]; try rfl) rfl ?_
          exact unhide K _ _ _ ((G.alloc _ _).more _)
      · have K : Hid (∀ x off' c, (d = 0 ∨ off' = off + a * 4) → G w x → CaS W0 w (casesP m (a : Int) (d : Int)) (.returned (.slice (some ⟨b, off', none⟩) d c)) x) := hide (fun x off' c ho g => by
          rw [hn]
          refine ⟨some ⟨b, off', none⟩, c, by rw [hlen], fun y gy => ?_, g⟩
          rw [hlen]
          exact row_sub (h.r4.g okCa gy) had off' ho)
        clear h hn hlen hbad
        go_enter Tryz.func44, Tryz.ntmps44
        go_wp2_with fail
        all_goals
          refine bodyPost_ret (by simp [results, Tryz.results44, go_sem]; try rfl) rfl ?_
          exact unhide K _ _ _ (by first | exact Or.inr rfl | exact Or.inl (by omega)) ((G.alloc _ _).more _)
theorem vcases_no (W0 w : World) (m : Md) (so : Option Addr) (sc : Nat) (go : Option Addr) (gc : Nat) (co : Option Addr) (cc : Nat) (ao : Option Addr) (ac : Nat) (fo : Option Addr) (fc : Nat) (i : In) (hop : i.op ≠ 41) :
    Calls Tryz.prog 44 #[agM m so sc go gc co cc ao ac fo fc, agI i] w (CaS W0 w []) := by
  unfold agM agI
  obtain ⟨op, A, B, C, D⟩ := i
  have hb : (op != 41) = true := by simpa using hop
  have K : Hid (∀ x, G w x → CaS W0 w [] (.returned (.slice none 0 0)) x) := hide (fun x g => ⟨none, 0, rfl, fun y _ => RowAt.nil y, g⟩)
  clear hop
  generalize m.ca.length = q1
  generalize m.sh.length = q2
  generalize m.gl.length = q3
  generalize m.co.length = q4
  generalize m.fn.length = q5
  go_enter Tryz.func44, Tryz.ntmps44
  go_wp2_with fail
  refine bodyPost_ret (by simp [results, Tryz.results44, go_sem]; try rfl) rfl ?_
  exact unhide K _ ((G.alloc _ _).more _)
/-- A run of slots that a call hands on. -/
def argP (m : Md) (n first : Int) : Int × Int × List Bool := if 0 ≤ n ∧ n < (m.fn.length : Int) then (first, (fnP m n).p, (fnP m n).ks.take (fnP m n).p.toNat) else (0, 0, [])
/-- It is answered. -/
def RnTo (B x : World) (r : Int × Int × List Bool) (e : Ending) (w' : World) : Prop := ∃ ko kc, e = .returned (.agg #[.int .i64 r.1, .int .i64 r.2.1, .slice ko r.2.2.length kc]) ∧ (∀ y, G B y → RowAt elB y ko r.2.2.length kc r.2.2) ∧ G x w'
theorem runOf_none (W0 w : World) (m : Md) (so : Option Addr) (sc : Nat) (go : Option Addr) (gc : Nat) (co : Option Addr) (cc : Nat) (ao : Option Addr) (ac : Nat) (fo : Option Addr) (fc : Nat) (i : In) (hop : i.op = 18 ∨ i.op = 22 ∨ i.op = 41 ∨ i.op = 43) :
    Calls Tryz.prog 43 #[agM m so sc go gc co cc ao ac fo fc, agI i] w (RnTo W0 w (0, 0, [])) := by
  unfold agM agI
  obtain ⟨op, A, B, C, D⟩ := i
  simp only at hop ⊢
  generalize m.ca.length = q1
  generalize m.sh.length = q2
  generalize m.gl.length = q3
  generalize m.co.length = q4
  generalize m.fn.length = q5
  have K : Hid (∀ x, G w x → RnTo W0 w (0, 0, []) (.returned (.agg #[.int .i64 0, .int .i64 0, .slice none 0 0])) x) := hide (fun x g => ⟨none, 0, rfl, fun y _ => RowAt.nil y, g⟩)
  rcases hop with rfl | rfl | rfl | rfl
  all_goals
    go_enter Tryz.func43, Tryz.ntmps43
    go_wp2_with fail
    refine bodyPost_ret (by simp [results, Tryz.results43, go_sem]; try rfl) rfl ?_
    exact unhide K _ (((G.alloc _ _).more _).more _)
end Go.Proofs.YtnliooflpclcbaaGreatDoor

/- Package verify: argumentsOf, runOf of a call, itemOf. -/
namespace Go.Proofs.YtnliooflpclcbaaGreatDoor
set_option maxRecDepth 100000
open Go.RowKit Go.Maps Go.ChangeShapes Go.WideShapes Go.ChangeAt Go.Deep

theorem build_run (n c : Nat) (x y : Int) (ko : Option Addr) (w : World) : (Instr.build 77 #[(0, .int .i64 x), (1, .int .i64 y), (2, .slice ko n c)]).run Tryz.prog w = .ok (.agg #[.int .i64 x, .int .i64 y, .slice ko n c]) w := by kernel_rfl
/-- A module's function lies there. -/
def FnHere (w : World) (fo : Option Addr) (n : Nat) (f : Fn) (ko : Option Addr) (kc : Nat) : Prop := ∃ b off io ic mo mc, fo = some ⟨b, off, none⟩ ∧ b < w.heap.size ∧ CellsAt w b (off + n * 7) [.int .i64 f.p, .int .i64 f.c, .int .i64 f.s, .int .i64 f.r, .slice ko f.ks.length kc, .slice io f.is.length ic, .slice mo f.ms.length mc]
theorem FnHere.g {w w' : World} {fo : Option Addr} {n : Nat} {f : Fn} {ko : Option Addr} {kc : Nat} (h : FnHere w fo n f ko kc) (g : G w w') : FnHere w' fo n f ko kc := by
  obtain ⟨b, off, io, ic, mo, mc, h1, h2, h3⟩ := h
  exact ⟨b, off, io, ic, mo, mc, h1, Nat.lt_of_lt_of_le h2 g.size, h3.kept (g.block b h2)⟩
set_option maxHeartbeats 4000000 in
theorem arg_any (B w : World) (gB : G B w) (m : Md) (so : Option Addr) (sc : Nat) (go : Option Addr) (gc : Nat) (co : Option Addr) (cc : Nat) (ao : Option Addr) (ac : Nat) (fo : Option Addr) (fc : Nat) (n p : Nat) (first : Int) (f : Fn) (kb koff kc : Nat) (hN : n < m.fn.length) (hf : FnHere B fo n f (some ⟨kb, koff, none⟩) kc) (hp : f.p = (p : Int)) (hpl : p ≤ f.ks.length) (hkc : f.ks.length ≤ kc) (hk0 : 0 < kc) (hk : RowAt elB B (some ⟨kb, koff, none⟩) f.ks.length kc f.ks) :
    Calls Tryz.prog 65 #[agM m so sc go gc co cc ao ac fo fc, .int .i64 (n : Int), .int .i64 first] w (RnTo B w (first, f.p, f.ks.take p)) := by
  unfold agM
  obtain ⟨fb, foff, io, ic, mo, mc, rfl, hfb, hcs⟩ := hf
  have CI : Hid (∀ y, Calls Tryz.prog 22 #[.int .i64 (n : Int), .int .i64 (m.fn.length : Int)] y fun e w' => e = .returned (.bool true) ∧ w' = y) := hide fun y => (isin_any y n m.fn.length).mono (by rintro e w' ⟨rfl, rfl⟩; exact ⟨by rw [show inR (n : Int) (m.fn.length : Int) = true from by unfold inR; simp [hN]], rfl⟩)
  have hlen : (f.ks.take p).length = p := by rw [List.length_take]; omega
  have K : Hid (∀ x, G w x → RnTo B w (first, f.p, f.ks.take p) (.returned (.agg #[.int .i64 first, .int .i64 (p : Int), .slice (some ⟨kb, koff, none⟩) p kc])) x) := hide (fun x g => ⟨some ⟨kb, koff, none⟩, kc, by rw [hlen, hp], (fun y gy => by
    rw [hlen]
    have := row_sub (c' := kc) (a := 0) (d := p) (hk.g okB gy) (by omega) koff (Or.inr (by simp))
    simpa using this), g⟩)
  have hP : ¬ (p : Int) < 0 := by omega
  have hP2 : (p : Int) ≤ (kc : Int) := by omega
  have hP3 : p ≤ kc := by omega
  have bl : (n : Int) < (m.fn.length : Int) := by omega
  have bn : ¬ (n : Int) < 0 := by omega
  have FC : Hid (∀ y, G w y → CellsAt y fb (foff + n * 7) [.int .i64 (p : Int), .int .i64 f.c, .int .i64 f.s, .int .i64 f.r, .slice (some ⟨kb, koff, none⟩) f.ks.length kc, .slice io f.is.length ic, .slice mo f.ms.length mc]) := hide fun y g => by rw [← hp]; exact hcs.kept ((gB.trans g).block fb hfb)
  clear hcs hk
  obtain ⟨W1, hW1⟩ : ∃ W1, W1 = (w.alloc (.cells #[.slice so m.sh.length sc, .slice go m.gl.length gc, .slice co m.co.length cc, .slice ao m.ca.length ac, .slice (some ⟨fb, foff, none⟩) m.fn.length fc, .int .i64 m.main] 33)).alloc (.cells #[.int .i64 0, .int .i64 0, .slice none 0 0] 77) := ⟨_, rfl⟩
  have g1 : G w W1 := by rw [hW1]; exact (G.alloc _ _).more _
  have q4 : W1.cell? ⟨w.heap.size, 4, none⟩ = some (.slice (some ⟨fb, foff, none⟩) m.fn.length fc) := by
    rw [hW1, World.cell?_alloc_past _ _ _ (by rw [World.size_alloc]; omega), World.cell?_alloc_new]; rfl
  have r0 : W1.cell? ⟨w.heap.size + 1, 0, none⟩ = some (.int .i64 0) := by rw [hW1, World.cell?_alloc_at _ _ _ _ (by rw [World.size_alloc])]; rfl
  have r1 : W1.cell? ⟨w.heap.size + 1, 1, none⟩ = some (.int .i64 0) := by rw [hW1, World.cell?_alloc_at _ _ _ _ (by rw [World.size_alloc])]; rfl
  have r2 : W1.cell? ⟨w.heap.size + 1, 2, none⟩ = some (.slice none 0 0) := by rw [hW1, World.cell?_alloc_at _ _ _ _ (by rw [World.size_alloc])]; rfl
  have rlt : w.heap.size + 1 < W1.heap.size := by rw [hW1, World.size_alloc, World.size_alloc]; omega
  have rf : ∀ i, W1.frozen? ⟨w.heap.size + 1, i, none⟩ = false := fun i => by
    rw [hW1]
    unfold World.frozen?
    have := heap_alloc_new (w.alloc (.cells #[.slice so m.sh.length sc, .slice go m.gl.length gc, .slice co m.co.length cc, .slice ao m.ca.length ac, .slice (some ⟨fb, foff, none⟩) m.fn.length fc, .int .i64 m.main] 33)) (.cells #[.int .i64 0, .int .i64 0, .slice none 0 0] 77)
    rw [World.size_alloc] at this
    rw [this]
    simp
  replace g1 := hide g1
  have f0 := unhide FC W1 (unhide g1) 0 _ rfl
  have f1 := unhide FC W1 (unhide g1) 1 _ rfl
  have f2 := unhide FC W1 (unhide g1) 2 _ rfl
  have f3 := unhide FC W1 (unhide g1) 3 _ rfl
  have f4 := unhide FC W1 (unhide g1) 4 _ rfl
  have f5 := unhide FC W1 (unhide g1) 5 _ rfl
  have f6 := unhide FC W1 (unhide g1) 6 _ rfl
  simp only [Nat.add_zero] at f0
  clear FC hlen hp hpl hkc
  generalize m.fn.length = NF at *
  go_enter Tryz.func65, Tryz.ntmps65
  go_upto_region 1 with fail
  rw [← hW1]
  clear hW1
  go_wp2_with fail
  refine (unhide CI _).mono ?_
  rintro e w1 ⟨rfl, hw⟩
  rw [hw]
  clear hw w1 CI
  go_upto_region 4 with fail
  obtain ⟨W2, hW2⟩ : ∃ W2, W2 = W1.alloc (.cells #[.int .i64 (p : Int), .int .i64 f.c, .int .i64 f.s, .int .i64 f.r, .slice (some ⟨kb, koff, none⟩) f.ks.length kc, .slice io f.is.length ic, .slice mo f.ms.length mc] 39) := ⟨_, rfl⟩
  have g2 : G W1 W2 := by rw [hW2]; exact G.alloc _ _
  have d0 : W2.cell? ⟨W1.heap.size, 0, none⟩ = some (.int .i64 (p : Int)) := by rw [hW2, World.cell?_alloc_new]; rfl
  have d4 : W2.cell? ⟨W1.heap.size, 4, none⟩ = some (.slice (some ⟨kb, koff, none⟩) f.ks.length kc) := by rw [hW2, World.cell?_alloc_new]; rfl
  have e0 := g2.cell r0
  have e1 := g2.cell r1
  have e2 := g2.cell r2
  have ef : ∀ i, W2.frozen? ⟨w.heap.size + 1, i, none⟩ = false := fun i => (World.frozen?_of_block (a := ⟨w.heap.size + 1, i, none⟩) (g2.block _ rlt)).trans (rf i)
  have gz := hide ((unhide g1).trans g2)
  have GS : Hid (∀ x v0 v1 v2, G w x → G w (((x.setCell ⟨w.heap.size + 1, 0, none⟩ v0).setCell ⟨w.heap.size + 1, 1, none⟩ v1).setCell ⟨w.heap.size + 1, 2, none⟩ v2)) := hide fun x v0 v1 v2 g => ((g.set _ 0 v0 (by omega)).set _ 1 v1 (by omega)).set _ 2 v2 (by omega)
  rw [← hW2]
  clear hW2 g2 f0 f1 f2 f3 f4 f5 f6 r0 r1 r2 rf rlt q4 g1
  have ef0 := ef 0
  have ef1 := ef 1
  have ef2 := ef 2
  clear ef
  generalize f.ks.length = KL at *
  have bld := build_run p kc first (p : Int) (some ⟨kb, koff, none⟩)
  go_region
  all_goals
    go_wp2_with fail
    refine bodyPost_ret (by simp [results, Tryz.results65, go_sem, e0, e1, e2]; try rfl) rfl ?_
    exact unhide K _ (unhide GS _ _ _ _ (by first | exact unhide gz | exact (unhide gz).trans (G.drewN _ _))).drew
end Go.Proofs.YtnliooflpclcbaaGreatDoor

/- Package verify: runOf of a call, itemOf. -/
namespace Go.Proofs.YtnliooflpclcbaaGreatDoor
set_option maxRecDepth 100000
open Go.RowKit Go.Maps Go.ChangeShapes Go.WideShapes Go.ChangeAt Go.Deep

theorem al3 (w : World) (a b c : Array Value) (s t u : TypeId) : (∀ i, (((w.alloc (.cells a s)).alloc (.cells b t)).alloc (.cells c u)).cell? ⟨w.heap.size, i, none⟩ = a[i]?) ∧ (∀ i, (((w.alloc (.cells a s)).alloc (.cells b t)).alloc (.cells c u)).cell? ⟨w.heap.size + 1, i, none⟩ = b[i]?) ∧ (∀ i, (((w.alloc (.cells a s)).alloc (.cells b t)).alloc (.cells c u)).cell? ⟨w.heap.size + 2, i, none⟩ = c[i]?) ∧ (∀ i, (((w.alloc (.cells a s)).alloc (.cells b t)).alloc (.cells c u)).frozen? ⟨w.heap.size + 2, i, none⟩ = false) := by
  have h1 : (w.alloc (.cells a s)).heap.size = w.heap.size + 1 := World.size_alloc ..
  have h2 : ((w.alloc (.cells a s)).alloc (.cells b t)).heap.size = w.heap.size + 2 := by rw [World.size_alloc, h1]
  refine ⟨fun i => ?_, fun i => ?_, fun i => ?_, fun i => ?_⟩
  · rw [World.cell?_alloc_past _ _ _ (by omega), World.cell?_alloc_past _ _ _ (by omega), World.cell?_alloc_new]
  · rw [World.cell?_alloc_past _ _ _ (by omega), World.cell?_alloc_at _ _ _ _ (by omega)]
  · rw [World.cell?_alloc_at _ _ _ _ (by omega)]
  · have := heap_alloc_new ((w.alloc (.cells a s)).alloc (.cells b t)) (.cells c u)
    rw [h2] at this
    unfold World.frozen?
    rw [this]
    simp
set_option maxHeartbeats 2000000 in
theorem runOf_call (B : World) (w : World) (m : Md) (so : Option Addr) (sc : Nat) (go : Option Addr) (gc : Nat) (co : Option Addr) (cc : Nat) (ao : Option Addr) (ac : Nat) (fo : Option Addr) (fc : Nat) (gB : G B w) (A : Int) (n p : Nat) (C D : Int) (f : Fn) (kb koff kc : Nat) (hN : n < m.fn.length) (hf : FnHere B fo n f (some ⟨kb, koff, none⟩) kc) (hp : f.p = (p : Int)) (hpl : p ≤ f.ks.length) (hkc : f.ks.length ≤ kc) (hk0 : 0 < kc) (hk : RowAt elB B (some ⟨kb, koff, none⟩) f.ks.length kc f.ks) :
    Calls Tryz.prog 43 #[agM m so sc go gc co cc ao ac fo fc, agI ⟨20, A, (n : Int), C, D⟩] w (RnTo B w (C, f.p, f.ks.take p)) := by
  have CA : Hid (∀ y, G w y → Calls Tryz.prog 65 #[.agg #[.slice so m.sh.length sc, .slice go m.gl.length gc, .slice co m.co.length cc, .slice ao m.ca.length ac, .slice fo m.fn.length fc, .int .i64 m.main], .int .i64 (n : Int), .int .i64 C] y (RnTo B y (C, f.p, f.ks.take p))) := hide fun y g => arg_any B y (gB.trans g) m so sc go gc co cc ao ac fo fc n p C f kb koff kc hN hf hp hpl hkc hk0 hk
  obtain ⟨W1, hW1⟩ : ∃ W1, W1 = ((w.alloc (.cells #[.slice so m.sh.length sc, .slice go m.gl.length gc, .slice co m.co.length cc, .slice ao m.ca.length ac, .slice fo m.fn.length fc, .int .i64 m.main] 33)).alloc (.cells #[.int .i64 20, .int .i64 A, .int .i64 (n : Int), .int .i64 C, .int .i64 D] 41)).alloc (.cells #[.int .i64 0, .int .i64 0, .slice none 0 0] 77) := ⟨_, rfl⟩
  have g1 : G w W1 := by rw [hW1]; exact ((G.alloc _ _).more _).more _
  have m0 : W1.cell? ⟨w.heap.size, 0, none⟩ = some (.slice so m.sh.length sc) := by rw [hW1]; exact (al3 w #[.slice so m.sh.length sc, .slice go m.gl.length gc, .slice co m.co.length cc, .slice ao m.ca.length ac, .slice fo m.fn.length fc, .int .i64 m.main] #[.int .i64 20, .int .i64 A, .int .i64 (n : Int), .int .i64 C, .int .i64 D] #[.int .i64 0, .int .i64 0, .slice none 0 0] 33 41 77).1 0
  have m1 : W1.cell? ⟨w.heap.size, 1, none⟩ = some (.slice go m.gl.length gc) := by rw [hW1]; exact (al3 w #[.slice so m.sh.length sc, .slice go m.gl.length gc, .slice co m.co.length cc, .slice ao m.ca.length ac, .slice fo m.fn.length fc, .int .i64 m.main] #[.int .i64 20, .int .i64 A, .int .i64 (n : Int), .int .i64 C, .int .i64 D] #[.int .i64 0, .int .i64 0, .slice none 0 0] 33 41 77).1 1
  have m2 : W1.cell? ⟨w.heap.size, 2, none⟩ = some (.slice co m.co.length cc) := by rw [hW1]; exact (al3 w #[.slice so m.sh.length sc, .slice go m.gl.length gc, .slice co m.co.length cc, .slice ao m.ca.length ac, .slice fo m.fn.length fc, .int .i64 m.main] #[.int .i64 20, .int .i64 A, .int .i64 (n : Int), .int .i64 C, .int .i64 D] #[.int .i64 0, .int .i64 0, .slice none 0 0] 33 41 77).1 2
  have m3 : W1.cell? ⟨w.heap.size, 3, none⟩ = some (.slice ao m.ca.length ac) := by rw [hW1]; exact (al3 w #[.slice so m.sh.length sc, .slice go m.gl.length gc, .slice co m.co.length cc, .slice ao m.ca.length ac, .slice fo m.fn.length fc, .int .i64 m.main] #[.int .i64 20, .int .i64 A, .int .i64 (n : Int), .int .i64 C, .int .i64 D] #[.int .i64 0, .int .i64 0, .slice none 0 0] 33 41 77).1 3
  have m4 : W1.cell? ⟨w.heap.size, 4, none⟩ = some (.slice fo m.fn.length fc) := by rw [hW1]; exact (al3 w #[.slice so m.sh.length sc, .slice go m.gl.length gc, .slice co m.co.length cc, .slice ao m.ca.length ac, .slice fo m.fn.length fc, .int .i64 m.main] #[.int .i64 20, .int .i64 A, .int .i64 (n : Int), .int .i64 C, .int .i64 D] #[.int .i64 0, .int .i64 0, .slice none 0 0] 33 41 77).1 4
  have m5 : W1.cell? ⟨w.heap.size, 5, none⟩ = some (.int .i64 m.main) := by rw [hW1]; exact (al3 w #[.slice so m.sh.length sc, .slice go m.gl.length gc, .slice co m.co.length cc, .slice ao m.ca.length ac, .slice fo m.fn.length fc, .int .i64 m.main] #[.int .i64 20, .int .i64 A, .int .i64 (n : Int), .int .i64 C, .int .i64 D] #[.int .i64 0, .int .i64 0, .slice none 0 0] 33 41 77).1 5
  have i0 : W1.cell? ⟨w.heap.size + 1, 0, none⟩ = some (.int .i64 20) := by rw [hW1]; exact (al3 w #[.slice so m.sh.length sc, .slice go m.gl.length gc, .slice co m.co.length cc, .slice ao m.ca.length ac, .slice fo m.fn.length fc, .int .i64 m.main] #[.int .i64 20, .int .i64 A, .int .i64 (n : Int), .int .i64 C, .int .i64 D] #[.int .i64 0, .int .i64 0, .slice none 0 0] 33 41 77).2.1 0
  have i1 : W1.cell? ⟨w.heap.size + 1, 1, none⟩ = some (.int .i64 A) := by rw [hW1]; exact (al3 w #[.slice so m.sh.length sc, .slice go m.gl.length gc, .slice co m.co.length cc, .slice ao m.ca.length ac, .slice fo m.fn.length fc, .int .i64 m.main] #[.int .i64 20, .int .i64 A, .int .i64 (n : Int), .int .i64 C, .int .i64 D] #[.int .i64 0, .int .i64 0, .slice none 0 0] 33 41 77).2.1 1
  have i2 : W1.cell? ⟨w.heap.size + 1, 2, none⟩ = some (.int .i64 (n : Int)) := by rw [hW1]; exact (al3 w #[.slice so m.sh.length sc, .slice go m.gl.length gc, .slice co m.co.length cc, .slice ao m.ca.length ac, .slice fo m.fn.length fc, .int .i64 m.main] #[.int .i64 20, .int .i64 A, .int .i64 (n : Int), .int .i64 C, .int .i64 D] #[.int .i64 0, .int .i64 0, .slice none 0 0] 33 41 77).2.1 2
  have i3 : W1.cell? ⟨w.heap.size + 1, 3, none⟩ = some (.int .i64 C) := by rw [hW1]; exact (al3 w #[.slice so m.sh.length sc, .slice go m.gl.length gc, .slice co m.co.length cc, .slice ao m.ca.length ac, .slice fo m.fn.length fc, .int .i64 m.main] #[.int .i64 20, .int .i64 A, .int .i64 (n : Int), .int .i64 C, .int .i64 D] #[.int .i64 0, .int .i64 0, .slice none 0 0] 33 41 77).2.1 3
  have i4 : W1.cell? ⟨w.heap.size + 1, 4, none⟩ = some (.int .i64 D) := by rw [hW1]; exact (al3 w #[.slice so m.sh.length sc, .slice go m.gl.length gc, .slice co m.co.length cc, .slice ao m.ca.length ac, .slice fo m.fn.length fc, .int .i64 m.main] #[.int .i64 20, .int .i64 A, .int .i64 (n : Int), .int .i64 C, .int .i64 D] #[.int .i64 0, .int .i64 0, .slice none 0 0] 33 41 77).2.1 4
  have r0 : W1.cell? ⟨w.heap.size + 2, 0, none⟩ = some (.int .i64 0) := by rw [hW1]; exact (al3 w #[.slice so m.sh.length sc, .slice go m.gl.length gc, .slice co m.co.length cc, .slice ao m.ca.length ac, .slice fo m.fn.length fc, .int .i64 m.main] #[.int .i64 20, .int .i64 A, .int .i64 (n : Int), .int .i64 C, .int .i64 D] #[.int .i64 0, .int .i64 0, .slice none 0 0] 33 41 77).2.2.1 0
  have r1 : W1.cell? ⟨w.heap.size + 2, 1, none⟩ = some (.int .i64 0) := by rw [hW1]; exact (al3 w #[.slice so m.sh.length sc, .slice go m.gl.length gc, .slice co m.co.length cc, .slice ao m.ca.length ac, .slice fo m.fn.length fc, .int .i64 m.main] #[.int .i64 20, .int .i64 A, .int .i64 (n : Int), .int .i64 C, .int .i64 D] #[.int .i64 0, .int .i64 0, .slice none 0 0] 33 41 77).2.2.1 1
  have r2 : W1.cell? ⟨w.heap.size + 2, 2, none⟩ = some (.slice none 0 0) := by rw [hW1]; exact (al3 w #[.slice so m.sh.length sc, .slice go m.gl.length gc, .slice co m.co.length cc, .slice ao m.ca.length ac, .slice fo m.fn.length fc, .int .i64 m.main] #[.int .i64 20, .int .i64 A, .int .i64 (n : Int), .int .i64 C, .int .i64 D] #[.int .i64 0, .int .i64 0, .slice none 0 0] 33 41 77).2.2.1 2
  have rf : ∀ i, W1.frozen? ⟨w.heap.size + 2, i, none⟩ = false := fun i => by rw [hW1]; exact (al3 w #[.slice so m.sh.length sc, .slice go m.gl.length gc, .slice co m.co.length cc, .slice ao m.ca.length ac, .slice fo m.fn.length fc, .int .i64 m.main] #[.int .i64 20, .int .i64 A, .int .i64 (n : Int), .int .i64 C, .int .i64 D] #[.int .i64 0, .int .i64 0, .slice none 0 0] 33 41 77).2.2.2 i
  have rlt : w.heap.size + 2 < W1.heap.size := by rw [hW1]; simp [World.size_alloc]
  have RB : Hid (∀ y, G W1 y → (y.cell? ⟨w.heap.size + 2, 0, none⟩ = some (.int .i64 0) ∧ y.cell? ⟨w.heap.size + 2, 1, none⟩ = some (.int .i64 0) ∧ y.cell? ⟨w.heap.size + 2, 2, none⟩ = some (.slice none 0 0)) ∧ ∀ i, y.frozen? ⟨w.heap.size + 2, i, none⟩ = false) := hide fun y g => ⟨⟨g.cell r0, g.cell r1, g.cell r2⟩, fun i => (World.frozen?_of_block (a := ⟨w.heap.size + 2, i, none⟩) (g.block _ rlt)).trans (rf i)⟩
  have KK : Hid (∀ (z : World) (ko : Option Addr) (k : Nat) v0 v1 v2, G w z → (∀ y, G B y → RowAt elB y ko (f.ks.take p).length k (f.ks.take p)) → RnTo B w (C, f.p, f.ks.take p) (.returned (.agg #[.int .i64 C, .int .i64 f.p, .slice ko (f.ks.take p).length k])) (((z.setCell ⟨w.heap.size + 2, 0, none⟩ v0).setCell ⟨w.heap.size + 2, 1, none⟩ v1).setCell ⟨w.heap.size + 2, 2, none⟩ v2)) := hide fun z ko k v0 v1 v2 g h => ⟨ko, k, rfl, h, ((g.set _ 0 v0 (by omega)).set _ 1 v1 (by omega)).set _ 2 v2 (by omega)⟩
  clear hf hk hN
  unfold agM agI
  clear hp hpl hkc hk0
  have CB : Hid (Calls Tryz.prog 65 #[.agg #[.slice so m.sh.length sc, .slice go m.gl.length gc, .slice co m.co.length cc, .slice ao m.ca.length ac, .slice fo m.fn.length fc, .int .i64 m.main], .int .i64 (n : Int), .int .i64 C] W1 fun e w' => ∃ ko k, e = .returned (.agg #[.int .i64 C, .int .i64 f.p, .slice ko (f.ks.take p).length k]) ∧ (∀ y, G B y → RowAt elB y ko (f.ks.take p).length k (f.ks.take p)) ∧ G W1 w') := hide (unhide CA W1 g1)
  replace g1 := hide g1
  clear CA rf rlt gB
  generalize f.p = P at *
  generalize (f.ks.take p) = ks at *
  generalize ks.length = kl at *
  generalize m.ca.length = q1 at *
  generalize m.sh.length = q2 at *
  generalize m.gl.length = q3 at *
  generalize m.co.length = q4 at *
  generalize m.fn.length = q5 at *
  generalize m.main = q6 at *
  go_enter Tryz.func43, Tryz.ntmps43
  go_upto_region 1 with fail
  rw [← hW1]
  clear hW1
  go_wp2_with fail
  refine (unhide CB).mono ?_
  rintro e w2 ⟨ko, k, rfl, hrow, g2⟩
  obtain ⟨⟨b0, b1, b2⟩, bf⟩ := unhide RB w2 g2
  have bf0 := bf 0
  have bf1 := bf 1
  have bf2 := bf 2
  replace hrow := hide hrow
  have gz := hide ((unhide g1).trans g2)
  clear CB g2 bf g1 RB m0 m1 m2 m3 m4 m5 i0 i1 i2 i3 i4 r0 r1 r2
  go_wp2_with fail
  refine bodyPost_ret (by simp [results, Tryz.results43, go_sem, b0, b1, b2]; try rfl) rfl ?_
  exact unhide KK _ ko k _ _ _ (unhide gz) (unhide hrow)
end Go.Proofs.YtnliooflpclcbaaGreatDoor

/- Package verify: itemOf. -/
namespace Go.Proofs.YtnliooflpclcbaaGreatDoor
set_option maxRecDepth 100000
open Go.RowKit Go.Maps Go.ChangeShapes Go.WideShapes Go.ChangeAt Go.Deep

theorem al4 (w : World) (a b c d : Array Value) (s t u v : TypeId) (W : World) (hW : W = (((w.alloc (.cells a s)).alloc (.cells b t)).alloc (.cells c u)).alloc (.cells d v)) : (∀ i, W.cell? ⟨w.heap.size, i, none⟩ = a[i]?) ∧ (∀ i, W.cell? ⟨w.heap.size + 1, i, none⟩ = b[i]?) ∧ (∀ i, W.cell? ⟨w.heap.size + 2, i, none⟩ = c[i]?) ∧ (∀ i, W.cell? ⟨w.heap.size + 3, i, none⟩ = d[i]?) ∧ (∀ i, W.frozen? ⟨w.heap.size + 3, i, none⟩ = false) ∧ W.heap.size = w.heap.size + 4 := by
  subst hW
  have h1 : (w.alloc (.cells a s)).heap.size = w.heap.size + 1 := World.size_alloc ..
  have h2 : ((w.alloc (.cells a s)).alloc (.cells b t)).heap.size = w.heap.size + 2 := by rw [World.size_alloc, h1]
  have h3 : (((w.alloc (.cells a s)).alloc (.cells b t)).alloc (.cells c u)).heap.size = w.heap.size + 3 := by rw [World.size_alloc, h2]
  refine ⟨fun i => ?_, fun i => ?_, fun i => ?_, fun i => ?_, fun i => ?_, ?_⟩
  · rw [World.cell?_alloc_past _ _ _ (by omega), World.cell?_alloc_past _ _ _ (by omega), World.cell?_alloc_past _ _ _ (by omega), World.cell?_alloc_new]
  · rw [World.cell?_alloc_past _ _ _ (by omega), World.cell?_alloc_past _ _ _ (by omega), World.cell?_alloc_at _ _ _ _ (by omega)]
  · rw [World.cell?_alloc_past _ _ _ (by omega), World.cell?_alloc_at _ _ _ _ (by omega)]
  · rw [World.cell?_alloc_at _ _ _ _ (by omega)]
  · have := heap_alloc_new (((w.alloc (.cells a s)).alloc (.cells b t)).alloc (.cells c u)) (.cells d v)
    rw [h3] at this
    unfold World.frozen?
    rw [this]
    simp
  · rw [World.size_alloc, h3]
/-- A box of n cells that may be written. -/
def Rb (y : World) (b n : Nat) : Prop := b < y.heap.size ∧ (∀ i, i < n → (y.cell? ⟨b, i, none⟩).isSome = true) ∧ ∀ i, y.frozen? ⟨b, i, none⟩ = false
theorem Rb.g {y z : World} {b n : Nat} (h : Rb y b n) (g : G y z) : Rb z b n :=
  ⟨Nat.lt_of_lt_of_le h.1 g.size, fun i hi => by rw [World.cell?_of_block (a := ⟨b, i, none⟩) (g.block b h.1)]; exact h.2.1 i hi, fun i => (World.frozen?_of_block (a := ⟨b, i, none⟩) (g.block b h.1)).trans (h.2.2 i)⟩
theorem Rb.set {y : World} {b n : Nat} (h : Rb y b n) (j : Nat) (hj : j < n) (v : Value) : Rb (y.setCell ⟨b, j, none⟩ v) b n := by
  refine ⟨by rw [World.size_setCell]; exact h.1, fun i hi => ?_, fun i => by rw [World.frozen?_setCell]; exact h.2.2 i⟩
  by_cases e : i = j
  · subst e
    obtain ⟨u, hu⟩ := Option.isSome_iff_exists.1 (h.2.1 i hj)
    rw [cell_same _ hu]; rfl
  · rw [cell_other _ (Or.inr e)]; exact h.2.1 i hi
theorem build_ops (a b c d : Int) (w : World) : (Instr.build 75 #[(0, .int .i64 a), (1, .int .i64 b), (2, .int .i64 c), (3, .int .i64 d)]).run Tryz.prog w = .ok (.agg #[.int .i64 a, .int .i64 b, .int .i64 c, .int .i64 d]) w := by kernel_rfl
theorem build_item (op a b c d : Int) (r0 r1 r2 r3 : Nat) (f n : Int) (ko : Option Addr) (kl kc : Nat) (co : Option Addr) (cl cc : Nat) (w : World) : (Instr.build 79 #[(0, .agg #[.int .i64 op, .int .i64 a, .int .i64 b, .int .i64 c, .int .i64 d]), (1, .agg #[.int .i64 a, .int .i64 b, .int .i64 c, .int .i64 d]), (2, .agg #[.int .u8 (r0 : Int), .int .u8 (r1 : Int), .int .u8 (r2 : Int), .int .u8 (r3 : Int)]), (3, .agg #[.int .i64 f, .int .i64 n, .slice ko kl kc]), (4, .slice co cl cc)]).run Tryz.prog w = .ok (.agg #[.int .i64 op, .int .i64 a, .int .i64 b, .int .i64 c, .int .i64 d, .int .i64 a, .int .i64 b, .int .i64 c, .int .i64 d, .int .u8 (r0 : Int), .int .u8 (r1 : Int), .int .u8 (r2 : Int), .int .u8 (r3 : Int), .int .i64 f, .int .i64 n, .slice ko kl kc, .slice co cl cc]) w := by kernel_rfl
end Go.Proofs.YtnliooflpclcbaaGreatDoor

/- Package verify: pairFits, barrierGood, of the Ops 18, 20, 22, 41, 43. -/
namespace Go.Proofs.YtnliooflpclcbaaGreatDoor
set_option maxRecDepth 100000
open Go.RowKit Go.Maps Go.ChangeShapes Go.WideShapes Go.ChangeAt Go.Deep

/-- What pairFits answers of an Op with -1 as its A, or one that asks nothing. -/
def prP (i : In) (r : Int) : Bool := if i.op = 22 then decide (r = 0) else true
set_option maxHeartbeats 2000000 in
theorem pair_any (w : World) (jb : Nat) (r : Int) (i : In) (hr : w.cell? ⟨jb, 9, none⟩ = some (.int .i64 r)) (hop : i.op = 18 ∨ (i.op = 20 ∧ i.a = -1) ∨ (i.op = 22 ∧ i.a = -1) ∨ i.op = 41 ∨ i.op = 43) :
    Calls Tryz.prog 52 #[.pointer (some ⟨jb, 0, none⟩), .agg #[.int .i64 i.op, .int .i64 i.a, .int .i64 i.b, .int .i64 i.c, .int .i64 i.d]] w fun e w' => e = .returned (.bool (prP i r)) ∧ G w w' := by
  obtain ⟨op, a, b, c, d⟩ := i
  simp only at hop ⊢
  obtain ⟨W1, hW1⟩ : ∃ W1, W1 = w.alloc (.cells #[.int .i64 op, .int .i64 a, .int .i64 b, .int .i64 c, .int .i64 d] 41) := ⟨_, rfl⟩
  have g1 : G w W1 := by rw [hW1]; exact G.alloc _ _
  have q0 : W1.cell? ⟨w.heap.size, 0, none⟩ = some (.int .i64 op) := by rw [hW1, World.cell?_alloc_new]; rfl
  have q1 : W1.cell? ⟨w.heap.size, 1, none⟩ = some (.int .i64 a) := by rw [hW1, World.cell?_alloc_new]; rfl
  have q9 := g1.cell hr
  replace g1 := hide g1
  clear hr
  rcases hop with rfl | ⟨rfl, rfl⟩ | ⟨rfl, rfl⟩ | rfl | rfl
  · rw [show prP ⟨18, a, b, c, d⟩ r = true from rfl]
    go_enter Tryz.func52, Tryz.ntmps52
    go_upto_region 1 with fail
    rw [← hW1]
    clear hW1
    go_wp2_with fail
    go_ret
    exact ⟨rfl, unhide g1⟩
  · rw [show prP ⟨20, -1, b, c, d⟩ r = true from rfl]
    go_enter Tryz.func52, Tryz.ntmps52
    go_upto_region 1 with fail
    rw [← hW1]
    clear hW1
    go_upto_region 9 with fail
    go_quiet (fail)
    go_wp2_with fail
    go_ret
    exact ⟨rfl, (unhide g1).trans (G.drewN _ _)⟩
  · by_cases h0 : r = 0
    · subst h0
      rw [show prP ⟨22, -1, b, c, d⟩ 0 = true from rfl]
      go_enter Tryz.func52, Tryz.ntmps52
      go_upto_region 1 with fail
      rw [← hW1]
      clear hW1
      go_wp2_with fail
      go_ret
      exact ⟨rfl, unhide g1⟩
    · rw [show prP ⟨22, -1, b, c, d⟩ r = false from (if_pos rfl).trans (decide_eq_false h0)]
      have e0 : (r == 0) = false := by simpa using h0
      go_enter Tryz.func52, Tryz.ntmps52
      go_upto_region 1 with fail
      rw [← hW1]
      clear hW1 h0
      go_wp2_with fail
      go_ret
      exact ⟨rfl, unhide g1⟩
  · rw [show prP ⟨41, a, b, c, d⟩ r = true from rfl]
    go_enter Tryz.func52, Tryz.ntmps52
    go_upto_region 1 with fail
    rw [← hW1]
    clear hW1
    go_wp2_with fail
    go_ret
    exact ⟨rfl, unhide g1⟩
  · rw [show prP ⟨43, a, b, c, d⟩ r = true from rfl]
    go_enter Tryz.func52, Tryz.ntmps52
    go_upto_region 1 with fail
    rw [← hW1]
    clear hW1
    go_wp2_with fail
    go_ret
    exact ⟨rfl, unhide g1⟩
set_option maxHeartbeats 2000000 in
theorem barrier_any (w : World) (jv pv : Value) (i : In) (h1 : i.op ≠ 29) (h2 : i.op ≠ 32) :
    Calls Tryz.prog 31 #[jv, pv, .agg #[.int .i64 i.op, .int .i64 i.a, .int .i64 i.b, .int .i64 i.c, .int .i64 i.d]] w fun e w' => e = .returned (.bool true) ∧ G w w' := by
  obtain ⟨op, a, b, c, d⟩ := i
  simp only at h1 h2 ⊢
  obtain ⟨W1, hW1⟩ : ∃ W1, W1 = w.alloc (.cells #[.int .i64 op, .int .i64 a, .int .i64 b, .int .i64 c, .int .i64 d] 41) := ⟨_, rfl⟩
  have g1 : Hid (G w W1) := hide (by rw [hW1]; exact G.alloc _ _)
  have q0 : W1.cell? ⟨w.heap.size, 0, none⟩ = some (.int .i64 op) := by rw [hW1, World.cell?_alloc_new]; rfl
  have e1 : (op != 29) = true := by simpa using h1
  have e2 : (op != 32) = true := by simpa using h2
  clear h1 h2
  go_enter Tryz.func31, Tryz.ntmps31
  go_upto_region 1 with fail
  rw [← hW1]
  clear hW1
  go_quiet (fail)
  go_wp2_with fail
  go_ret
  exact ⟨rfl, (unhide g1).trans (G.drewN _ _)⟩
end Go.Proofs.YtnliooflpclcbaaGreatDoor

/- Package verify: staysInside, goesBackToPolls. -/
namespace Go.Proofs.YtnliooflpclcbaaGreatDoor
set_option maxRecDepth 100000
open Go.RowKit Go.Maps Go.ChangeShapes Go.WideShapes Go.ChangeAt Go.Deep

def stP (L : Int) (pc : Int) (x : It) : Bool := (targP x).all (fun t => inR t L) && (decide (pc < L - 1) || lastP x.i.op)
def bk1 (is : List In) (pc : Int) (t : Int) : Bool := !(decide (t ≤ pc) && (match is[t.toNat]? with | some i => i.op != 43 | none => false))
def bkP (is : List In) (pc : Int) (x : It) : Bool := (targP x).all (bk1 is pc)
theorem all_no {l : List Int} {p : Int → Bool} {k : Nat} {t : Int} (h : l[k]? = some t) (hp : p t = false) : l.all p = false := by
  rw [List.all_eq_false]
  exact ⟨t, List.mem_of_getElem? h, by rw [hp]; decide⟩
theorem all_yes {l : List Int} {p : Int → Bool} (h : ∀ j t, j < l.length → l[j]? = some t → p t = true) : l.all p = true := by
  rw [List.all_eq_true]
  intro t ht
  obtain ⟨k, hk⟩ := List.getElem?_of_mem ht
  exact h k t (List.getElem?_eq_some_iff.1 hk).1 hk
theorem all_step {l : List Int} {p : Int → Bool} {k : Nat} {t : Int} (hk : l[k]? = some t) (hp : p t = true) (h : ∀ j t, j < k → l[j]? = some t → p t = true) : ∀ j t, j < k + 1 → l[j]? = some t → p t = true := fun j c hj hc => by
  rcases Nat.lt_or_ge j k with h' | h'
  · exact h j c h' hc
  · obtain rfl : j = k := by omega
    rw [hk] at hc
    cases hc
    exact hp
set_option maxHeartbeats 4000000 in
theorem stays_any (w : World) (jb pc : Nat) (x : It) (kv : Value) (ao : Option Addr) (ac : Nat) (io : Option Addr) (ic : Nat) (is : List In) (hr : RowAt elCa w ao x.cs.length ac x.cs) (hn : x.cs.length ≤ 100000) (hi : w.cell? ⟨jb, 11, none⟩ = some (.slice io is.length ic)) (hil : is.length ≤ 1000000) :
    Calls Tryz.prog 29 #[.pointer (some ⟨jb, 0, none⟩), .int .i64 (pc : Int), .agg (itL x kv (.slice ao x.cs.length ac))] w fun e w' => e = .returned (.bool (stP is.length pc x)) ∧ G w w' := by
  obtain ⟨W1, hW1⟩ : ∃ W1, W1 = w.alloc (.cells (itL x kv (.slice ao x.cs.length ac)) 79) := ⟨_, rfl⟩
  have B := bxi_new w x kv (.slice ao x.cs.length ac)
  rw [← hW1] at B
  have g1 : G w W1 := by rw [hW1]; exact G.alloc _ _
  have q11 := g1.cell hi
  have hr1 := hr.g okCa g1
  have CT := hide (vtargets_any W1 x kv ao ac hr1 hn)
  have CI : Hid (∀ y v, Calls Tryz.prog 22 #[.int .i64 v, .int .i64 (is.length : Int)] y fun e w' => e = .returned (.bool (inR v is.length)) ∧ w' = y) := hide fun y v => isin_any y v _
  have CL : Hid (∀ y, Calls Tryz.prog 54 #[.int .i64 x.i.op] y fun e w' => e = .returned (.bool (lastP x.i.op)) ∧ w' = y) := hide fun y => last_any y _
  have hlen : (targP x).length ≤ 100004 := by
    have h : ∀ k, (tg4 x k).length ≤ 1 := fun k => by unfold tg4; split <;> simp
    have h0 := h 0
    have h1 := h 1
    have h2 := h 2
    have h3 := h 3
    rw [targP_eq]
    simp only [List.length_append, List.length_map]
    omega
  have PF : Hid (∀ k t, (targP x)[k]? = some t → inR t is.length = false → stP is.length pc x = false) := hide fun k t h1 h2 => by
    unfold stP
    rw [all_no (p := fun t => inR t is.length) h1 h2]
    rfl
  have PT : Hid ((∀ j t, j < (targP x).length → (targP x)[j]? = some t → inR t is.length = true) → stP is.length pc x = (decide ((pc : Int) < (is.length : Int) - 1) || lastP x.i.op)) := hide fun h => by
    unfold stP
    rw [all_yes (p := fun t => inR t is.length) h]
    rfl
  generalize hR : stP is.length pc x = R at *
  clear hr hr1 hi
  generalize targP x = tl at *
  obtain ⟨⟨op, a, b, c, d⟩, ⟨r0, r1, r2, r3⟩, first, count, ks, cs⟩ := x
  simp only at *
  replace g1 := hide g1
  have BG : Hid (∀ y, G W1 y → y.cell? ⟨w.heap.size, 0, none⟩ = some (.int .i64 op) ∧ y.cell? ⟨jb, 11, none⟩ = some (.slice io is.length ic)) := hide fun y g => ⟨g.cell B.c0, g.cell q11⟩
  have TL : Hid (∀ (y z : World) (to' : Option Addr) (tc k : Nat), RowAt elI y to' tl.length tc tl → G y z → k < tl.length → ∃ tb toff t, to' = some ⟨tb, toff, none⟩ ∧ tl[k]? = some t ∧ z.cell? ⟨tb, toff + k, none⟩ = some (.int .i64 t)) := hide fun y z to' tc k h g hk => by
    obtain ⟨tb, toff, t, cs', e, ha, ecs, hcs⟩ := row_get h hk
    have ecs : cs' = [.int .i64 t] := ecs
    subst ecs
    have := hcs z g 0 _ rfl
    exact ⟨tb, toff, t, e, ha, by simpa [elI] using this⟩
  obtain ⟨c0, c1, c2, c3, c4, c5, c6, c7, c8, c9, c10, c11, c12, c13, c14, c15, c16⟩ := B
  simp only at c0 c1 c2 c3 c4 c5 c6 c7 c8 c9 c10 c11 c12 c13 c14 c15 c16
  have CT2 : Hid (Calls Tryz.prog 53 #[.agg #[.int .i64 op, .int .i64 a, .int .i64 b, .int .i64 c, .int .i64 d, .int .i64 a, .int .i64 b, .int .i64 c, .int .i64 d, .int .u8 (r0 : Int), .int .u8 (r1 : Int), .int .u8 (r2 : Int), .int .u8 (r3 : Int), .int .i64 first, .int .i64 count, kv, .slice ao cs.length ac]] W1 fun e w' => ∃ to' tc, e = .returned (.slice to' tl.length tc) ∧ RowAt elI w' to' tl.length tc tl ∧ G W1 w') := hide ((unhide CT).mono (by
    rintro e w' ⟨v, rfl, ⟨to', tc, rfl, -, h⟩, g⟩
    exact ⟨to', tc, rfl, h, g⟩))
  clear CT
  generalize hTN : tl.length = TN at *
  generalize hIL : is.length = IL at *
  go_enter Tryz.func29, Tryz.ntmps29
  go_upto_region 1 with fail
  rw [← hW1]
  clear hW1
  go_wp2_with fail
  refine (unhide CT2).mono ?_
  rintro e w2 ⟨to', tc, rfl, hT, g2⟩
  replace hT := hide hT
  replace g2 := hide g2
  clear CT2 c0 c1 c2 c3 c4 c5 c6 c7 c8 c9 c10 c11 c12 c13 c14 c15 c16 q11
  go_wp2_with fail
  go_loopw [12] (fun i wr => ∃ k : Nat, k ≤ TN ∧ i = .int .i64 (k : Int) ∧ wr = w2 ∧ Hid (∀ j t, j < k → tl[j]? = some t → inR t (IL : Int) = true)) (fun i _ => TN - (intOf i).toNat)
  case atStart => exact ⟨0, Nat.zero_le _, rfl, rfl, hide (fun j t hj => absurd hj (Nat.not_lt_zero _))⟩
  case round =>
    obtain ⟨k, hk, rfl, hwr, hall⟩ := hrel
    rw [hwr]
    clear hwr
    obtain ⟨b0, b11⟩ := unhide BG w2 (unhide g2)
    have gz := hide ((unhide g1).trans (unhide g2))
    by_cases hlt : k < TN
    · obtain ⟨tb, toff, t, rfl, ht, d0⟩ := unhide TL w2 w2 to' tc k (unhide hT) (G.refl _) hlt
      have C := hide (unhide CI w2 t)
      have P1 : Hid (inR t (IL : Int) = false → R = false) := hide (unhide PF k t ht)
      have P2 : Hid (inR t (IL : Int) = true → ∀ j t, j < k + 1 → tl[j]? = some t → inR t (IL : Int) = true) := hide fun h => all_step (p := fun t => inR t (IL : Int)) ht h (unhide hall)
      clear CI PF PT ht hall TL hT CL
      generalize inR t (IL : Int) = q at C P1 P2
      go_wp2_with fail
      refine (unhide C).mono ?_
      rintro e w3 ⟨rfl, hw⟩
      rw [hw]
      clear hw w3 C d0
      cases q
      · have hx := hide (unhide P1 rfl)
        go_wp2_with fail
        go_ret
        exact ⟨by rw [unhide hx]; rfl, unhide gz⟩
      · have P3 := unhide P2 rfl
        go_wp2_with fail
        go_roundw
        case rel => exact ⟨k + 1, by omega, by go_num, by trivial, hide P3⟩
        case measure => simp [intOf]; omega
    · obtain rfl : k = TN := by omega
      have hx := hide (unhide PT (unhide hall))
      have C := hide (unhide CL w2)
      have e1 : wrap64 ((IL : Int) - 1) = (IL : Int) - 1 := by unfold wrap64; omega
      clear PF PT hall TL hT CL CI
      by_cases hp : (pc : Int) < (IL : Int) - 1
      · rw [decide_eq_true hp, Bool.true_or] at hx
        clear C
        go_wp2_with fail
        go_ret
        exact ⟨by rw [unhide hx]; rfl, unhide gz⟩
      · rw [decide_eq_false hp, Bool.false_or] at hx
        generalize lastP op = q at C hx
        go_wp2_with fail
        refine (unhide C).mono ?_
        rintro e w3 ⟨rfl, hw⟩
        rw [hw]
        clear hw w3 C
        go_wp2_with fail
        go_ret
        exact ⟨by rw [unhide hx]; rfl, unhide gz⟩
set_option maxHeartbeats 4000000 in
theorem goes_any (w : World) (jb pc : Nat) (x : It) (kv : Value) (ao : Option Addr) (ac : Nat) (io : Option Addr) (ic : Nat) (is : List In) (hr : RowAt elCa w ao x.cs.length ac x.cs) (hn : x.cs.length ≤ 100000) (hi : w.cell? ⟨jb, 11, none⟩ = some (.slice io is.length ic)) (_hil : is.length ≤ 1000000) (hrI : RowAt elIn w io is.length ic is) (hin : ∀ t ∈ targP x, inR t is.length = true) :
    Calls Tryz.prog 30 #[.pointer (some ⟨jb, 0, none⟩), .int .i64 (pc : Int), .agg (itL x kv (.slice ao x.cs.length ac))] w fun e w' => e = .returned (.bool (bkP is pc x)) ∧ G w w' := by
  obtain ⟨W1, hW1⟩ : ∃ W1, W1 = w.alloc (.cells (itL x kv (.slice ao x.cs.length ac)) 79) := ⟨_, rfl⟩
  have B := bxi_new w x kv (.slice ao x.cs.length ac)
  rw [← hW1] at B
  have g1 : G w W1 := by rw [hW1]; exact G.alloc _ _
  have q11 := g1.cell hi
  have hr1 := hr.g okCa g1
  have CT := hide (vtargets_any W1 x kv ao ac hr1 hn)
  have CI : Hid (∀ y v, Calls Tryz.prog 22 #[.int .i64 v, .int .i64 (is.length : Int)] y fun e w' => e = .returned (.bool (inR v is.length)) ∧ w' = y) := hide fun y v => isin_any y v _
  have CL : Hid (∀ y, Calls Tryz.prog 54 #[.int .i64 x.i.op] y fun e w' => e = .returned (.bool (lastP x.i.op)) ∧ w' = y) := hide fun y => last_any y _
  have hlen : (targP x).length ≤ 100004 := by
    have h : ∀ k, (tg4 x k).length ≤ 1 := fun k => by unfold tg4; split <;> simp
    have h0 := h 0
    have h1 := h 1
    have h2 := h 2
    have h3 := h 3
    rw [targP_eq]
    simp only [List.length_append, List.length_map]
    omega
  have hri := hrI.g okIn g1
  have PF : Hid (∀ k t, (targP x)[k]? = some t → bk1 is pc t = false → bkP is pc x = false) := hide fun k t h1 h2 => all_no (p := bk1 is pc) h1 h2
  have PT : Hid ((∀ j t, j < (targP x).length → (targP x)[j]? = some t → bk1 is pc t = true) → bkP is pc x = true) := hide fun h => all_yes (p := bk1 is pc) h
  have IN : Hid (∀ (z : World) t, t ∈ targP x → G W1 z → ∃ (tn ib ioff : Nat) (i : In), t = (tn : Int) ∧ tn < is.length ∧ io = some ⟨ib, ioff, none⟩ ∧ is[tn]? = some i ∧ z.cell? ⟨ib, ioff + tn * 5, none⟩ = some (.int .i64 i.op)) := hide fun z t ht g => by
    have h := hin t ht
    unfold inR at h
    simp at h
    obtain ⟨tn, rfl⟩ : ∃ tn : Nat, t = (tn : Int) := ⟨t.toNat, by omega⟩
    have hlt : tn < is.length := by omega
    obtain ⟨ib, ioff, i, cs', e, ha, ecs, hcs⟩ := row_get hri hlt
    have ecs : cs' = [.int .i64 i.op, .int .i64 i.a, .int .i64 i.b, .int .i64 i.c, .int .i64 i.d] := ecs
    subst ecs
    exact ⟨tn, ib, ioff, i, rfl, hlt, e, ha, hcs z g 0 _ rfl⟩
  generalize hR : bkP is pc x = R at *
  clear hin hrI hri CI CL
  clear hr hr1 hi
  generalize targP x = tl at *
  obtain ⟨⟨op, a, b, c, d⟩, ⟨r0, r1, r2, r3⟩, first, count, ks, cs⟩ := x
  simp only at *
  replace g1 := hide g1
  have BG : Hid (∀ y, G W1 y → y.cell? ⟨w.heap.size, 0, none⟩ = some (.int .i64 op) ∧ y.cell? ⟨jb, 11, none⟩ = some (.slice io is.length ic)) := hide fun y g => ⟨g.cell B.c0, g.cell q11⟩
  have TL : Hid (∀ (y z : World) (to' : Option Addr) (tc k : Nat), RowAt elI y to' tl.length tc tl → G y z → k < tl.length → ∃ tb toff t, to' = some ⟨tb, toff, none⟩ ∧ tl[k]? = some t ∧ z.cell? ⟨tb, toff + k, none⟩ = some (.int .i64 t)) := hide fun y z to' tc k h g hk => by
    obtain ⟨tb, toff, t, cs', e, ha, ecs, hcs⟩ := row_get h hk
    have ecs : cs' = [.int .i64 t] := ecs
    subst ecs
    have := hcs z g 0 _ rfl
    exact ⟨tb, toff, t, e, ha, by simpa [elI] using this⟩
  obtain ⟨c0, c1, c2, c3, c4, c5, c6, c7, c8, c9, c10, c11, c12, c13, c14, c15, c16⟩ := B
  simp only at c0 c1 c2 c3 c4 c5 c6 c7 c8 c9 c10 c11 c12 c13 c14 c15 c16
  have CT2 : Hid (Calls Tryz.prog 53 #[.agg #[.int .i64 op, .int .i64 a, .int .i64 b, .int .i64 c, .int .i64 d, .int .i64 a, .int .i64 b, .int .i64 c, .int .i64 d, .int .u8 (r0 : Int), .int .u8 (r1 : Int), .int .u8 (r2 : Int), .int .u8 (r3 : Int), .int .i64 first, .int .i64 count, kv, .slice ao cs.length ac]] W1 fun e w' => ∃ to' tc, e = .returned (.slice to' tl.length tc) ∧ RowAt elI w' to' tl.length tc tl ∧ G W1 w') := hide ((unhide CT).mono (by
    rintro e w' ⟨v, rfl, ⟨to', tc, rfl, -, h⟩, g⟩
    exact ⟨to', tc, rfl, h, g⟩))
  clear CT
  generalize hTN : tl.length = TN at *
  generalize hIL : is.length = IL at *
  go_enter Tryz.func30, Tryz.ntmps30
  go_upto_region 1 with fail
  rw [← hW1]
  clear hW1
  go_wp2_with fail
  refine (unhide CT2).mono ?_
  rintro e w2 ⟨to', tc, rfl, hT, g2⟩
  replace hT := hide hT
  replace g2 := hide g2
  clear CT2 c0 c1 c2 c3 c4 c5 c6 c7 c8 c9 c10 c11 c12 c13 c14 c15 c16 q11
  go_wp2_with fail
  go_loopw [12] (fun i wr => ∃ k : Nat, k ≤ TN ∧ i = .int .i64 (k : Int) ∧ wr = w2 ∧ Hid (∀ j t, j < k → tl[j]? = some t → bk1 is pc t = true)) (fun i _ => TN - (intOf i).toNat)
  case atStart => exact ⟨0, Nat.zero_le _, rfl, rfl, hide (fun j t hj => absurd hj (Nat.not_lt_zero _))⟩
  case round =>
    obtain ⟨k, hk, rfl, hwr, hall⟩ := hrel
    rw [hwr]
    clear hwr
    obtain ⟨b0, b11⟩ := unhide BG w2 (unhide g2)
    have gz := hide ((unhide g1).trans (unhide g2))
    by_cases hlt : k < TN
    · obtain ⟨tb, toff, t, rfl, ht, d0⟩ := unhide TL w2 w2 to' tc k (unhide hT) (G.refl _) hlt
      obtain ⟨tn, ib, ioff, ii, rfl, htn, rfl, hii, f0⟩ := unhide IN w2 t (List.mem_of_getElem? ht) (unhide g2)
      have P1 : Hid (bk1 is pc (tn : Int) = false → R = false) := hide (unhide PF k _ ht)
      have P2 : Hid (bk1 is pc (tn : Int) = true → ∀ j t, j < k + 1 → tl[j]? = some t → bk1 is pc t = true) := hide fun h => all_step (p := bk1 is pc) ht h (unhide hall)
      have eb : bk1 is pc (tn : Int) = !(decide ((tn : Int) ≤ (pc : Int)) && (ii.op != 43)) := by unfold bk1; rw [Int.toNat_natCast, hii]
      rw [eb] at P1 P2
      have htnI : (tn : Int) < (IL : Int) := by omega
      have htn0 : ¬ (tn : Int) < 0 := by omega
      clear PF PT ht hall TL hT IN eb hii
      generalize ii.op = o at f0 P1 P2
      by_cases hp : (tn : Int) ≤ (pc : Int)
      · by_cases ho : o = 43
        · subst ho
          have P3 := unhide P2 (by simp)
          go_wp2_with fail
          go_roundw
          case rel => exact ⟨k + 1, by omega, by go_num, by trivial, hide P3⟩
          case measure => simp [intOf]; omega
        · have hx := hide (unhide P1 (by simp [hp, ho]))
          have e43 : (o != 43) = true := by simpa using ho
          clear ho P1 P2
          go_wp2_with fail
          go_ret
          exact ⟨by rw [unhide hx]; rfl, unhide gz⟩
      · have P3 := unhide P2 (by simp [hp])
        clear P1 P2
        go_wp2_with fail
        go_roundw
        case rel => exact ⟨k + 1, by omega, by go_num, by trivial, hide P3⟩
        case measure => simp [intOf]; omega
    · obtain rfl : k = TN := by omega
      have hx := hide (unhide PT (unhide hall))
      clear PF PT hall TL hT IN
      go_wp2_with fail
      go_ret
      exact ⟨by rw [unhide hx]; rfl, unhide gz⟩
end Go.Proofs.YtnliooflpclcbaaGreatDoor

/- Package verify: kindsFit, namedThere, of the Ops 18, 20, 22, 41, 43. -/
namespace Go.Proofs.YtnliooflpclcbaaGreatDoor
set_option maxRecDepth 100000
open Go.RowKit Go.Maps Go.ChangeShapes Go.WideShapes Go.ChangeAt Go.Deep

/-- A case's channel is an address. -/
def ckP (ks : List Bool) (c : Ca) : Bool := if c.k = 2 then true else (ks[c.c.toNat]?).getD false
/-- Roles that ask no kind. -/
def FreeR (r : Nat) : Prop := r = 0 ∨ r = 4 ∨ r = 6 ∨ r = 13 ∨ r = 15
/-- The kinds of a run. -/
def rkP (ks : List Bool) (first : Int) (l : List Bool) : Prop := ∀ (k : Nat) (b : Bool), l[k]? = some b → ks[first.toNat + k]? = some b
set_option maxHeartbeats 4000000 in
theorem kindsFit_any (w : World) (jb : Nat) (x : It) (r : Int) (ko : Option Addr) (kc : Nat) (ks : List Bool) (ro : Option Addr) (rc : Nat) (ao : Option Addr) (ac : Nat)
    (h9 : w.cell? ⟨jb, 9, none⟩ = some (.int .i64 r)) (h10 : w.cell? ⟨jb, 10, none⟩ = some (.slice ko ks.length kc)) (hk : RowAt elB w ko ks.length kc ks)
    (hr : RowAt elCa w ao x.cs.length ac x.cs) (hn : x.cs.length ≤ 1000000) (hrk : RowAt elB w ro x.ks.length rc x.ks) (hkl : ks.length ≤ 1000000)
    (f0 : FreeR x.r.1) (f1 : FreeR x.r.2.1) (f2 : FreeR x.r.2.2.1) (f3 : FreeR x.r.2.2.2)
    (hcc : ∀ c ∈ x.cs, c.k = 2 ∨ inR c.c ks.length = true) (hf : x.ks = [] ∨ (0 ≤ x.first ∧ rkP ks x.first x.ks))
    (hop : x.i.op = 18 ∨ (x.i.op = 20 ∧ x.i.a = -1) ∨ (x.i.op = 22 ∧ x.i.a = -1) ∨ x.i.op = 41 ∨ x.i.op = 43) :
    Calls Tryz.prog 28 #[.pointer (some ⟨jb, 0, none⟩), .agg (itL x (.slice ro x.ks.length rc) (.slice ao x.cs.length ac))] w fun e w' => e = .returned (.bool (x.cs.all (ckP ks) && prP x.i r)) ∧ G w w' := by
  obtain ⟨W1, hW1⟩ : ∃ W1, W1 = w.alloc (.cells (itL x (.slice ro x.ks.length rc) (.slice ao x.cs.length ac)) 79) := ⟨_, rfl⟩
  have B := bxi_new w x (.slice ro x.ks.length rc) (.slice ao x.cs.length ac)
  rw [← hW1] at B
  have g1 : G w W1 := by rw [hW1]; exact G.alloc _ _
  have q9 := g1.cell h9
  have q10 := g1.cell h10
  have hr1 := hr.g okCa g1
  have hk1 := hk.g okB g1
  have hrk1 := hrk.g okB g1
  have D : Hid (∀ y rr v, FreeR rr → Calls Tryz.prog 51 #[.pointer (some ⟨jb, 0, none⟩), .int .u8 ((rr : Nat) : Int), .int .i64 v] y fun e w' => e = .returned (.bool true) ∧ w' = y) := hide fun y rr v h => kind_free y jb rr v h
  have D0 := hide fun y => unhide D y _ x.i.a f0
  have D1 := hide fun y => unhide D y _ x.i.b f1
  have D2 := hide fun y => unhide D y _ x.i.c f2
  have D3 := hide fun y => unhide D y _ x.i.d f3
  have DC : Hid (∀ y (c : Ca), c ∈ x.cs → c.k ≠ 2 → G W1 y → Calls Tryz.prog 51 #[.pointer (some ⟨jb, 0, none⟩), .int .u8 3, .int .i64 c.c] y fun e w' => e = .returned (.bool (ckP ks c)) ∧ w' = y) := hide fun y c hc hne g => by
    have h := (hcc c hc).resolve_left hne
    unfold inR at h
    simp at h
    obtain ⟨v, hv⟩ : ∃ v : Nat, c.c = (v : Int) := ⟨c.c.toNat, by omega⟩
    have hlt : v < ks.length := by omega
    have hb : ckP ks c = ks[v] := by
      unfold ckP
      rw [if_neg hne, hv, Int.toNat_natCast, List.getElem?_eq_getElem hlt]
      rfl
    rw [hb, hv]
    exact kind_addr y jb v ko kc ks _ (g.cell q10) (hk1.g okB g) (List.getElem?_eq_getElem hlt)
  have DP : Hid (∀ y, G W1 y → Calls Tryz.prog 52 #[.pointer (some ⟨jb, 0, none⟩), .agg #[.int .i64 x.i.op, .int .i64 x.i.a, .int .i64 x.i.b, .int .i64 x.i.c, .int .i64 x.i.d]] y fun e w' => e = .returned (.bool (prP x.i r)) ∧ G y w') := hide fun y g => pair_any y jb r x.i (g.cell q9) hop
  have RD : Hid (∀ (k : Nat) (wr : World), k < x.cs.length → G W1 wr → ∃ (b off : Nat) (c : Ca), ao = some ⟨b, off, none⟩ ∧ x.cs[k]? = some c ∧ wr.cell? ⟨b, off + k * 4, none⟩ = some (.int .i64 c.k) ∧ wr.cell? ⟨b, off + k * 4 + 1, none⟩ = some (.int .i64 c.c) ∧ wr.cell? ⟨b, off + k * 4 + 2, none⟩ = some (.int .i64 c.v) ∧ wr.cell? ⟨b, off + k * 4 + 3, none⟩ = some (.int .i64 c.t)) := hide fun k wr hk g => by
    obtain ⟨b, off, c, cs, e, ha, ecs, hcs⟩ := row_get hr1 hk
    have ecs : cs = [.int .i64 c.k, .int .i64 c.c, .int .i64 c.v, .int .i64 c.t] := ecs
    subst ecs
    exact ⟨b, off, c, e, ha, hcs wr g 0 _ rfl, hcs wr g 1 _ rfl, hcs wr g 2 _ rfl, hcs wr g 3 _ rfl⟩
  have RK : Hid (∀ (k : Nat) (wr : World), k < x.ks.length → G W1 wr → ∃ (rb roff kb koff fn : Nat) (b : Bool), ro = some ⟨rb, roff, none⟩ ∧ ko = some ⟨kb, koff, none⟩ ∧ x.first = (fn : Int) ∧ fn + k < ks.length ∧ wr.cell? ⟨rb, roff + k, none⟩ = some (.bool b) ∧ wr.cell? ⟨kb, koff + (fn + k), none⟩ = some (.bool b)) := hide fun k wr hlt g => by
    obtain ⟨rb, roff, b, cs, e, ha, ecs, hcs⟩ := row_get hrk1 hlt
    have ecs : cs = [.bool b] := ecs
    subst ecs
    rcases hf with h0 | ⟨h1, h2⟩
    · rw [h0] at hlt; exact absurd hlt (Nat.not_lt_zero _)
    · obtain ⟨fn, hfn⟩ : ∃ fn : Nat, x.first = (fn : Int) := ⟨x.first.toNat, by omega⟩
      have h3 := h2 k b ha
      rw [hfn, Int.toNat_natCast] at h3
      have h4 := (List.getElem?_eq_some_iff.1 h3).1
      obtain ⟨kb, koff, b', cs', e', ha', ecs', hcs'⟩ := row_get hk1 h4
      rw [h3] at ha'
      cases ha'
      have ecs' : cs' = [.bool b] := ecs'
      subst ecs'
      exact ⟨rb, roff, kb, koff, fn, b, e, e', hfn, h4, by simpa [elB] using hcs wr g 0 _ rfl, by simpa [elB] using hcs' wr g 0 _ rfl⟩
  have PF : Hid (∀ k c, x.cs[k]? = some c → ckP ks c = false → x.cs.all (ckP ks) = false) := hide fun k c hc hf => by
    rw [List.all_eq_false]
    exact ⟨c, List.mem_of_getElem? hc, by rw [hf]; decide⟩
  have PT : Hid ((∀ k c, k < x.cs.length → x.cs[k]? = some c → ckP ks c = true) → x.cs.all (ckP ks) = true) := hide fun h => by
    rw [List.all_eq_true]
    intro c hc
    obtain ⟨k, hk⟩ := List.getElem?_of_mem hc
    exact h k c (List.getElem?_eq_some_iff.1 hk).1 hk
  have CK2 : Hid (∀ c : Ca, c.k = 2 → ckP ks c = true) := hide fun c h => if_pos h
  have hksl : x.ks.length ≤ 1000000 := by
    rcases hf with h0 | ⟨h1, h2⟩
    · rw [h0]; exact Nat.zero_le _
    · rcases Nat.eq_zero_or_pos x.ks.length with h | h
      · omega
      · have h3 := h2 (x.ks.length - 1) _ (List.getElem?_eq_getElem (by omega))
        have := (List.getElem?_eq_some_iff.1 h3).1
        omega
  clear hr hk hrk h9 h10 hr1 hk1 hrk1 q9 f0 f1 f2 f3 hcc hf hop D
  replace g1 := hide g1
  obtain ⟨⟨op, a, b, c, d⟩, ⟨r0, r1, r2, r3⟩, first, count, xk, cs⟩ := x
  simp only at *
  generalize hpp : prP ⟨op, a, b, c, d⟩ r = pr at *
  generalize hpa : cs.all (ckP ks) = pa at *
  generalize hcp : ckP ks = cp at *
  generalize hkn : ks.length = KN at *
  generalize hrn : xk.length = RN at *
  have BG : Hid (∀ y, G W1 y → BxI y w.heap.size ⟨⟨op, a, b, c, d⟩, (r0, r1, r2, r3), first, count, xk, cs⟩ (.slice ro RN rc) (.slice ao cs.length ac) ∧ y.cell? ⟨jb, 10, none⟩ = some (.slice ko KN kc)) := hide fun y g => ⟨B.g g, g.cell q10⟩
  clear B q10
  obtain ⟨⟨c0, c1, c2, c3, c4, c5, c6, c7, c8, c9, c10, c11, c12, c13, c14, c15, c16⟩, q10⟩ := unhide BG W1 (G.refl _)
  simp only at c5 c6 c7 c8 c9 c10 c11 c12
  clear c0 c1 c2 c3 c4 c13 c14 c15 c16 q10
  have ix0 := ix4_0
  have ix1 := ix4_1
  have ix2 := ix4_2
  have ix3 := ix4_3
  go_enter Tryz.func28, Tryz.ntmps28
  go_upto_region 1 with fail
  rw [← hW1]
  clear hW1
  go_wp2_with fail
  go_loopw [13] (fun i wr => wr = W1 ∧ (i = .int .i64 0 ∨ i = .int .i64 1 ∨ i = .int .i64 2 ∨ i = .int .i64 3 ∨ i = .int .i64 4)) (fun i _ => 4 - (intOf i).toNat)
  case atStart => exact ⟨rfl, Or.inl rfl⟩
  case round =>
    obtain ⟨hwr, hk⟩ := hrel
    rw [hwr]
    clear hwr
    rcases hk with rfl | rfl | rfl | rfl | rfl
    · go_wp2_with fail
      refine (unhide D0 _).mono ?_
      rintro e w1 ⟨rfl, hw⟩
      rw [hw]
      clear hw w1
      go_wp2_with fail
      go_roundw
      case rel => exact ⟨by trivial, Or.inr (Or.inl rfl)⟩
      case measure => simp [intOf]
    · go_wp2_with fail
      refine (unhide D1 _).mono ?_
      rintro e w1 ⟨rfl, hw⟩
      rw [hw]
      clear hw w1
      go_wp2_with fail
      go_roundw
      case rel => exact ⟨by trivial, Or.inr (Or.inr (Or.inl rfl))⟩
      case measure => simp [intOf]
    · go_wp2_with fail
      refine (unhide D2 _).mono ?_
      rintro e w1 ⟨rfl, hw⟩
      rw [hw]
      clear hw w1
      go_wp2_with fail
      go_roundw
      case rel => exact ⟨by trivial, Or.inr (Or.inr (Or.inr (Or.inl rfl)))⟩
      case measure => simp [intOf]
    · go_wp2_with fail
      refine (unhide D3 _).mono ?_
      rintro e w1 ⟨rfl, hw⟩
      rw [hw]
      clear hw w1
      go_wp2_with fail
      go_roundw
      case rel => exact ⟨by trivial, Or.inr (Or.inr (Or.inr (Or.inr (rfl))))⟩
      case measure => simp [intOf]
    · clear D0 D1 D2 D3
      obtain ⟨⟨c0, c1, c2, c3, c4, -, -, -, -, -, -, -, -, c13, c14, c15, c16⟩, q10⟩ := unhide BG W1 (G.refl _)
      simp only at c0 c1 c2 c3 c4 c13 c15 c16
      go_wp2_with fail
      clear c0 c1 c2 c3 c4 c13 c15 c16 q10 c5 c6 c7 c8 c9 c10 c11 c12 c14
      go_loopw [29] (fun i wr => ∃ k : Nat, k ≤ cs.length ∧ i = .int .i64 (k : Int) ∧ Hid (G W1 wr) ∧ Hid (∀ j cc, j < k → cs[j]? = some cc → cp cc = true)) (fun i _ => cs.length - (intOf i).toNat)
      case atStart => exact ⟨0, Nat.zero_le _, rfl, hide (G.refl _), hide (fun j cc hj => absurd hj (Nat.not_lt_zero _))⟩
      case round =>
        obtain ⟨k, hk, rfl, hg, hall⟩ := hrel
        by_cases hlt : k < cs.length
        · obtain ⟨xb, off, cc, rfl, hcc, d0, d1, d2, d3⟩ := unhide RD k _ hlt (unhide hg)
          have g2 := hide ((unhide hg).more (.cells #[.int .i64 cc.k, .int .i64 cc.c, .int .i64 cc.v, .int .i64 cc.t] 43))
          have P1 : Hid (cp cc = false → pa = false) := hide (unhide PF k cc hcc)
          have P2 : Hid (cp cc = true → ∀ j c', j < k + 1 → cs[j]? = some c' → cp c' = true) := hide fun h j c' hj hc' => by
            rcases Nat.lt_or_ge j k with h' | h'
            · exact unhide hall j c' h' hc'
            · obtain rfl : j = k := by omega
              rw [hcc] at hc'
              cases hc'
              exact h
          have gq := hide ((unhide g1).trans (unhide g2))
          by_cases h2 : cc.k = 2
          · have P3 := unhide P2 (unhide CK2 cc h2)
            have e2 : (cc.k != 2) = false := by simp [h2]
            clear P1 P2 hall hcc PF PT RD RK DC DP CK2
            generalize cc.k = ck at *
            subst h2
            go_wp2_with fail
            go_roundw
            case rel => exact ⟨k + 1, by omega, by go_num, g2, hide P3⟩
            case measure => simp [intOf]; omega
          · have C := hide (unhide DC _ cc (List.mem_of_getElem? hcc) h2 (unhide g2))
            have e2 : (cc.k != 2) = true := by simpa using h2
            clear hall hcc PF PT RD RK DC DP CK2 h2
            generalize cp cc = q at C P1 P2
            obtain ⟨Wc, hWc⟩ : ∃ Wc, Wc = wr.alloc (.cells #[.int .i64 cc.k, .int .i64 cc.c, .int .i64 cc.v, .int .i64 cc.t] 43) := ⟨_, rfl⟩
            have z0 : Wc.cell? ⟨wr.heap.size, 0, none⟩ = some (.int .i64 cc.k) := by rw [hWc, World.cell?_alloc_new]; rfl
            have z1 : Wc.cell? ⟨wr.heap.size, 1, none⟩ = some (.int .i64 cc.c) := by rw [hWc, World.cell?_alloc_new]; rfl
            rw [← hWc] at C g2
            have gq := hide ((unhide g1).trans (unhide g2))
            go_upto_region 10 with fail
            rw [← hWc]
            clear hWc d0 d1 d2 d3
            go_wp2_with fail
            refine (unhide C).mono ?_
            rintro e w2 ⟨rfl, hw2⟩
            rw [hw2]
            clear C hw2 w2
            cases q
            · have hx := hide (unhide P1 rfl)
              go_wp2_with fail
              go_ret
              exact ⟨by rw [unhide hx]; rfl, unhide gq⟩
            · have P3 := unhide P2 rfl
              go_wp2_with fail
              go_roundw
              case rel => exact ⟨k + 1, by omega, by go_num, g2, hide P3⟩
              case measure => simp [intOf]; omega
        · obtain rfl : k = cs.length := by omega
          have hx := hide (unhide PT (unhide hall))
          obtain ⟨⟨c0, c1, c2, c3, c4, c5, c6, c7, c8, c9, c10, c11, c12, c13, c14, c15, c16⟩, q10⟩ := unhide BG _ (unhide hg)
          clear hall PF PT RD DC CK2 c0 c1 c2 c3 c4 c5 c6 c7 c8 c9 c10 c11 c12 c13 c14 c16 q10
          go_wp2_with fail
          clear c15
          go_loopw [48] (fun i wr2 => ∃ k : Nat, k ≤ RN ∧ i = .int .i64 (k : Int) ∧ Hid (G W1 wr2)) (fun i _ => RN - (intOf i).toNat)
          case atStart => exact ⟨0, Nat.zero_le _, rfl, hg⟩
          case round =>
            obtain ⟨k2, hk2, rfl, hg2⟩ := hrel
            obtain ⟨⟨c0, c1, c2, c3, c4, c5, c6, c7, c8, c9, c10, c11, c12, c13, c14, c15, c16⟩, q10⟩ := unhide BG _ (unhide hg2)
            simp only at c0 c1 c2 c3 c4 c13
            clear c5 c6 c7 c8 c9 c10 c11 c12 c14 c15 c16
            by_cases hlt2 : k2 < RN
            · obtain ⟨rb, roff, kb, koff, fn, b2, rfl, rfl, rfl, h4, e0, e1⟩ := unhide RK k2 _ hlt2 (unhide hg2)
              have s1 : wrap64 ((fn : Int) + (k2 : Int)) = ((fn + k2 : Nat) : Int) := by unfold wrap64; omega
              have s2 : ((fn + k2 : Nat) : Int) < (KN : Int) := by omega
              have s3 : ¬ ((fn + k2 : Nat) : Int) < 0 := by omega
              clear RK DP c0 c1 c2 c3 c4 BG
              go_upto_region 16 with fail
              go_quiet (fail)
              go_wp2_with fail
              go_roundw
              case rel => exact ⟨k2 + 1, by omega, by go_num, hide ((unhide hg2).trans (G.drewN _ _))⟩
              case measure => simp [intOf]; omega
            · obtain rfl : k2 = RN := by omega
              have C := hide (unhide DP _ (unhide hg2))
              have gq := hide ((unhide g1).trans (unhide hg2))
              clear RK DP c13 BG g1 hg hg2
              go_wp2_with fail
              refine (unhide C).mono ?_
              rintro e w2 ⟨rfl, hw2⟩
              have gz := hide ((unhide gq).trans hw2)
              clear C hw2 gq c0 c1 c2 c3 c4
              go_wp2_with fail
              go_ret
              exact ⟨by rw [unhide hx]; simp, unhide gz⟩
end Go.Proofs.YtnliooflpclcbaaGreatDoor

/- Package verify: namedThere, of the Ops 18, 20, 22, 41, 43. -/
namespace Go.Proofs.YtnliooflpclcbaaGreatDoor
set_option maxRecDepth 100000
open Go.RowKit Go.Maps Go.ChangeShapes Go.WideShapes Go.ChangeAt Go.Deep

set_option maxHeartbeats 4000000 in
theorem named_free (w : World) (jb : Nat) (x : It) (kv : Value) (ao : Option Addr) (ac : Nat) (hop : x.i.op = 18 ∨ x.i.op = 22 ∨ x.i.op = 43)
    (T : ∀ y, G w y → ∀ k, k < 4 → Calls Tryz.prog 48 #[.pointer (some ⟨jb, 0, none⟩), .int .u8 ((roleAt x.r k : Nat) : Int), .int .i64 (operAt x.i k)] y fun e w' => e = .returned (.bool true) ∧ w' = y) :
    Calls Tryz.prog 27 #[.pointer (some ⟨jb, 0, none⟩), .agg (itL x kv (.slice ao x.cs.length ac))] w fun e w' => e = .returned (.bool true) ∧ G w w' := by
  obtain ⟨W1, hW1⟩ : ∃ W1, W1 = w.alloc (.cells (itL x kv (.slice ao x.cs.length ac)) 79) := ⟨_, rfl⟩
  have B := bxi_new w x kv (.slice ao x.cs.length ac)
  rw [← hW1] at B
  have g1 : G w W1 := by rw [hW1]; exact G.alloc _ _
  have D0 : Hid (Calls Tryz.prog 48 #[.pointer (some ⟨jb, 0, none⟩), .int .u8 ((x.r.1 : Nat) : Int), .int .i64 x.i.a] W1 fun e w' => e = .returned (.bool true) ∧ w' = W1) := hide (T W1 g1 0 (by decide))
  have D1 : Hid (Calls Tryz.prog 48 #[.pointer (some ⟨jb, 0, none⟩), .int .u8 ((x.r.2.1 : Nat) : Int), .int .i64 x.i.b] W1 fun e w' => e = .returned (.bool true) ∧ w' = W1) := hide (T W1 g1 1 (by decide))
  have D2 : Hid (Calls Tryz.prog 48 #[.pointer (some ⟨jb, 0, none⟩), .int .u8 ((x.r.2.2.1 : Nat) : Int), .int .i64 x.i.c] W1 fun e w' => e = .returned (.bool true) ∧ w' = W1) := hide (T W1 g1 2 (by decide))
  have D3 : Hid (Calls Tryz.prog 48 #[.pointer (some ⟨jb, 0, none⟩), .int .u8 ((x.r.2.2.2 : Nat) : Int), .int .i64 x.i.d] W1 fun e w' => e = .returned (.bool true) ∧ w' = W1) := hide (T W1 g1 3 (by decide))
  clear T
  obtain ⟨⟨op, a, b, c, d⟩, ⟨r0, r1, r2, r3⟩, first, count, ks, cs⟩ := x
  simp only at *
  obtain ⟨c0, c1, c2, c3, c4, c5, c6, c7, c8, c9, c10, c11, c12, c13, c14, c15, c16⟩ := B
  simp only at c0 c1 c2 c3 c4 c5 c6 c7 c8 c9 c10 c11 c12
  have ix0 := ix4_0
  have ix1 := ix4_1
  have ix2 := ix4_2
  have ix3 := ix4_3
  replace g1 := hide g1
  go_enter Tryz.func27, Tryz.ntmps27
  go_upto_region 1 with fail
  rw [← hW1]
  clear hW1
  go_wp2_with fail
  go_loopw [10] (fun i wr => wr = W1 ∧ (i = .int .i64 0 ∨ i = .int .i64 1 ∨ i = .int .i64 2 ∨ i = .int .i64 3 ∨ i = .int .i64 4)) (fun i _ => 4 - (intOf i).toNat)
  case atStart => exact ⟨rfl, Or.inl rfl⟩
  case round =>
    obtain ⟨hwr, hk⟩ := hrel
    rw [hwr]
    clear hwr
    rcases hk with rfl | rfl | rfl | rfl | rfl
    · go_wp2_with fail
      refine (unhide D0).mono ?_
      rintro e w1 ⟨rfl, hw⟩
      rw [hw]
      clear hw w1
      go_wp2_with fail
      go_roundw
      case rel => exact ⟨by trivial, Or.inr (Or.inl rfl)⟩
      case measure => simp [intOf]
    · go_wp2_with fail
      refine (unhide D1).mono ?_
      rintro e w1 ⟨rfl, hw⟩
      rw [hw]
      clear hw w1
      go_wp2_with fail
      go_roundw
      case rel => exact ⟨by trivial, Or.inr (Or.inr (Or.inl rfl))⟩
      case measure => simp [intOf]
    · go_wp2_with fail
      refine (unhide D2).mono ?_
      rintro e w1 ⟨rfl, hw⟩
      rw [hw]
      clear hw w1
      go_wp2_with fail
      go_roundw
      case rel => exact ⟨by trivial, Or.inr (Or.inr (Or.inr (Or.inl rfl)))⟩
      case measure => simp [intOf]
    · go_wp2_with fail
      refine (unhide D3).mono ?_
      rintro e w1 ⟨rfl, hw⟩
      rw [hw]
      clear hw w1
      go_wp2_with fail
      go_roundw
      case rel => exact ⟨by trivial, Or.inr (Or.inr (Or.inr (Or.inr (rfl))))⟩
      case measure => simp [intOf]
    · clear D0 D1 D2 D3 ix0 ix1 ix2 ix3 c5 c6 c7 c8 c9 c10 c11 c12 c13 c14
      rcases hop with rfl | rfl | rfl
      all_goals
        go_wp2_with fail
        go_ret
        exact ⟨rfl, unhide g1⟩
set_option maxHeartbeats 4000000 in
theorem named_call (w : World) (jb : Nat) (x : It) (kv : Value) (ao : Option Addr) (ac : Nat) (hop : x.i.op = 20) (fo : Option Addr) (fc NF n : Nat) (f : Fn) (ko : Option Addr) (kc : Nat) (hb : x.i.b = (n : Int)) (hn : n < NF) (h4 : w.cell? ⟨jb, 4, none⟩ = some (.slice fo NF fc)) (hf : FnHere w fo n f ko kc)
    (T : ∀ y, G w y → ∀ k, k < 4 → Calls Tryz.prog 48 #[.pointer (some ⟨jb, 0, none⟩), .int .u8 ((roleAt x.r k : Nat) : Int), .int .i64 (operAt x.i k)] y fun e w' => e = .returned (.bool true) ∧ w' = y) :
    Calls Tryz.prog 27 #[.pointer (some ⟨jb, 0, none⟩), .agg (itL x kv (.slice ao x.cs.length ac))] w fun e w' => e = .returned (.bool (decide (f.c = 0))) ∧ G w w' := by
  obtain ⟨W1, hW1⟩ : ∃ W1, W1 = w.alloc (.cells (itL x kv (.slice ao x.cs.length ac)) 79) := ⟨_, rfl⟩
  have B := bxi_new w x kv (.slice ao x.cs.length ac)
  rw [← hW1] at B
  have g1 : G w W1 := by rw [hW1]; exact G.alloc _ _
  have D0 : Hid (Calls Tryz.prog 48 #[.pointer (some ⟨jb, 0, none⟩), .int .u8 ((x.r.1 : Nat) : Int), .int .i64 x.i.a] W1 fun e w' => e = .returned (.bool true) ∧ w' = W1) := hide (T W1 g1 0 (by decide))
  have D1 : Hid (Calls Tryz.prog 48 #[.pointer (some ⟨jb, 0, none⟩), .int .u8 ((x.r.2.1 : Nat) : Int), .int .i64 x.i.b] W1 fun e w' => e = .returned (.bool true) ∧ w' = W1) := hide (T W1 g1 1 (by decide))
  have D2 : Hid (Calls Tryz.prog 48 #[.pointer (some ⟨jb, 0, none⟩), .int .u8 ((x.r.2.2.1 : Nat) : Int), .int .i64 x.i.c] W1 fun e w' => e = .returned (.bool true) ∧ w' = W1) := hide (T W1 g1 2 (by decide))
  have D3 : Hid (Calls Tryz.prog 48 #[.pointer (some ⟨jb, 0, none⟩), .int .u8 ((x.r.2.2.2 : Nat) : Int), .int .i64 x.i.d] W1 fun e w' => e = .returned (.bool true) ∧ w' = W1) := hide (T W1 g1 3 (by decide))
  clear T
  have q4 := g1.cell h4
  obtain ⟨fb, foff, io, ic, mo, mc, rfl, hfb, hcs⟩ := hf
  have f1 : W1.cell? ⟨fb, foff + n * 7 + 1, none⟩ = some (.int .i64 f.c) := (hcs.kept (g1.block fb hfb)) 1 _ rfl
  have hn1 : (n : Int) < (NF : Int) := by omega
  have hn0 : ¬ (n : Int) < 0 := by omega
  clear hcs h4
  obtain ⟨⟨op, a, b, c, d⟩, ⟨r0, r1, r2, r3⟩, first, count, ks, cs⟩ := x
  simp only at *
  subst hop
  subst hb
  obtain ⟨c0, c1, c2, c3, c4, c5, c6, c7, c8, c9, c10, c11, c12, c13, c14, c15, c16⟩ := B
  simp only at c0 c1 c2 c3 c4 c5 c6 c7 c8 c9 c10 c11 c12
  have ix0 := ix4_0
  have ix1 := ix4_1
  have ix2 := ix4_2
  have ix3 := ix4_3
  replace g1 := hide g1
  go_enter Tryz.func27, Tryz.ntmps27
  go_upto_region 1 with fail
  rw [← hW1]
  clear hW1
  go_wp2_with fail
  go_loopw [10] (fun i wr => wr = W1 ∧ (i = .int .i64 0 ∨ i = .int .i64 1 ∨ i = .int .i64 2 ∨ i = .int .i64 3 ∨ i = .int .i64 4)) (fun i _ => 4 - (intOf i).toNat)
  case atStart => exact ⟨rfl, Or.inl rfl⟩
  case round =>
    obtain ⟨hwr, hk⟩ := hrel
    rw [hwr]
    clear hwr
    rcases hk with rfl | rfl | rfl | rfl | rfl
    · go_wp2_with fail
      refine (unhide D0).mono ?_
      rintro e w1 ⟨rfl, hw⟩
      rw [hw]
      clear hw w1
      go_wp2_with fail
      go_roundw
      case rel => exact ⟨by trivial, Or.inr (Or.inl rfl)⟩
      case measure => simp [intOf]
    · go_wp2_with fail
      refine (unhide D1).mono ?_
      rintro e w1 ⟨rfl, hw⟩
      rw [hw]
      clear hw w1
      go_wp2_with fail
      go_roundw
      case rel => exact ⟨by trivial, Or.inr (Or.inr (Or.inl rfl))⟩
      case measure => simp [intOf]
    · go_wp2_with fail
      refine (unhide D2).mono ?_
      rintro e w1 ⟨rfl, hw⟩
      rw [hw]
      clear hw w1
      go_wp2_with fail
      go_roundw
      case rel => exact ⟨by trivial, Or.inr (Or.inr (Or.inr (Or.inl rfl)))⟩
      case measure => simp [intOf]
    · go_wp2_with fail
      refine (unhide D3).mono ?_
      rintro e w1 ⟨rfl, hw⟩
      rw [hw]
      clear hw w1
      go_wp2_with fail
      go_roundw
      case rel => exact ⟨by trivial, Or.inr (Or.inr (Or.inr (Or.inr (rfl))))⟩
      case measure => simp [intOf]
    · clear D0 D1 D2 D3 ix0 ix1 ix2 ix3 c5 c6 c7 c8 c9 c10 c11 c12 c13 c14
      clear c15 c16
      by_cases h0 : f.c = 0
      · rw [h0] at f1
        go_upto_region 9 with fail
        go_quiet (fail)
        go_wp2_with fail
        go_ret
        exact ⟨by simp [h0], (unhide g1).trans (G.drewN _ _)⟩
      · have e0 : (f.c == 0) = false := by simpa using h0
        go_upto_region 9 with fail
        go_quiet (fail)
        go_wp2_with fail
        go_ret
        exact ⟨by simp [h0], (unhide g1).trans (G.drewN _ _)⟩
set_option maxHeartbeats 4000000 in
theorem named_sel (w : World) (jb : Nat) (x : It) (kv : Value) (ao : Option Addr) (ac : Nat) (hop : x.i.op = 41) (tb N c : Nat) (tk : Nat → Bool) (a n : Nat) (ha : x.i.a = (a : Int)) (hb : x.i.b = (n : Int)) (hn1 : 1 ≤ n) (han : a + n ≤ N) (hNc : N ≤ c) (hc : c ≤ 1000000) (h15 : w.cell? ⟨jb, 15, none⟩ = some (.slice (some ⟨tb, 0, none⟩) N c)) (hT : TkAt w tb N tk) (hg : casesP' x.cs = true) (hr : RowAt elCa w ao x.cs.length ac x.cs) (hcl : x.cs.length ≤ 1000000)
    (T : ∀ y, G w y → ∀ k, k < 4 → Calls Tryz.prog 48 #[.pointer (some ⟨jb, 0, none⟩), .int .u8 ((roleAt x.r k : Nat) : Int), .int .i64 (operAt x.i k)] y fun e w' => e = .returned (.bool true) ∧ w' = y) :
    Calls Tryz.prog 27 #[.pointer (some ⟨jb, 0, none⟩), .agg (itL x kv (.slice ao x.cs.length ac))] w (TkTo w tb N tk a n) := by
  obtain ⟨W1, hW1⟩ : ∃ W1, W1 = w.alloc (.cells (itL x kv (.slice ao x.cs.length ac)) 79) := ⟨_, rfl⟩
  have B := bxi_new w x kv (.slice ao x.cs.length ac)
  rw [← hW1] at B
  have g1 : G w W1 := by rw [hW1]; exact G.alloc _ _
  have D0 : Hid (Calls Tryz.prog 48 #[.pointer (some ⟨jb, 0, none⟩), .int .u8 ((x.r.1 : Nat) : Int), .int .i64 x.i.a] W1 fun e w' => e = .returned (.bool true) ∧ w' = W1) := hide (T W1 g1 0 (by decide))
  have D1 : Hid (Calls Tryz.prog 48 #[.pointer (some ⟨jb, 0, none⟩), .int .u8 ((x.r.2.1 : Nat) : Int), .int .i64 x.i.b] W1 fun e w' => e = .returned (.bool true) ∧ w' = W1) := hide (T W1 g1 1 (by decide))
  have D2 : Hid (Calls Tryz.prog 48 #[.pointer (some ⟨jb, 0, none⟩), .int .u8 ((x.r.2.2.1 : Nat) : Int), .int .i64 x.i.c] W1 fun e w' => e = .returned (.bool true) ∧ w' = W1) := hide (T W1 g1 2 (by decide))
  have D3 : Hid (Calls Tryz.prog 48 #[.pointer (some ⟨jb, 0, none⟩), .int .u8 ((x.r.2.2.2 : Nat) : Int), .int .i64 x.i.d] W1 fun e w' => e = .returned (.bool true) ∧ w' = W1) := hide (T W1 g1 3 (by decide))
  clear T
  have CG : Hid (Calls Tryz.prog 49 #[.slice ao x.cs.length ac] W1 fun e w' => e = .returned (.bool true) ∧ G W1 w') := hide (by
    have h := casesGood_any W1 ao ac x.cs (hr.g okCa g1) hcl
    rwa [hg] at h)
  have CT : Hid (∀ y, G W1 y → Calls Tryz.prog 50 #[.pointer (some ⟨jb, 0, none⟩), .int .i64 (a : Int), .int .i64 (n : Int)] y fun e w' => ∃ q, e = .returned (.bool q) ∧ TkTo w tb N tk a n (.returned (.bool q)) w') := hide fun y g => (take_any y jb tb N c tk a n ((g1.trans g).cell h15) (hT.g (g1.trans g)) hNc hc han hn1).mono (by
    rintro e w' ⟨h, gt⟩
    have gg : Gt tb w w' := ((g1.trans g).gt).trans gt
    rcases h with ⟨rfl, h1, h2⟩ | ⟨rfl, h1, h2⟩
    · exact ⟨true, rfl, Or.inl ⟨rfl, h1, h2⟩, gg⟩
    · exact ⟨false, rfl, Or.inr ⟨rfl, h1, h2⟩, gg⟩)
  have BG : Hid (∀ y, G W1 y → y.cell? ⟨w.heap.size, 1, none⟩ = some (.int .i64 (a : Int)) ∧ y.cell? ⟨w.heap.size, 2, none⟩ = some (.int .i64 (n : Int))) := hide fun y g => ⟨by rw [← ha]; exact g.cell B.c1, by rw [← hb]; exact g.cell B.c2⟩
  clear hr hg h15 hT hcl hNc hc han hn1
  obtain ⟨⟨op, a0, b0, cc0, d0⟩, ⟨r0, r1, r2, r3⟩, first, count, ks, cs⟩ := x
  simp only at *
  subst hop
  subst ha
  subst hb
  obtain ⟨c0, c1, c2, c3, c4, c5, c6, c7, c8, c9, c10, c11, c12, c13, c14, c15, c16⟩ := B
  simp only at c0 c1 c2 c3 c4 c5 c6 c7 c8 c9 c10 c11 c12
  have ix0 := ix4_0
  have ix1 := ix4_1
  have ix2 := ix4_2
  have ix3 := ix4_3
  replace g1 := hide g1
  go_enter Tryz.func27, Tryz.ntmps27
  go_upto_region 1 with fail
  rw [← hW1]
  clear hW1
  go_wp2_with fail
  go_loopw [10] (fun i wr => wr = W1 ∧ (i = .int .i64 0 ∨ i = .int .i64 1 ∨ i = .int .i64 2 ∨ i = .int .i64 3 ∨ i = .int .i64 4)) (fun i _ => 4 - (intOf i).toNat)
  case atStart => exact ⟨rfl, Or.inl rfl⟩
  case round =>
    obtain ⟨hwr, hk⟩ := hrel
    rw [hwr]
    clear hwr
    rcases hk with rfl | rfl | rfl | rfl | rfl
    · go_wp2_with fail
      refine (unhide D0).mono ?_
      rintro e w1 ⟨rfl, hw⟩
      rw [hw]
      clear hw w1
      go_wp2_with fail
      go_roundw
      case rel => exact ⟨by trivial, Or.inr (Or.inl rfl)⟩
      case measure => simp [intOf]
    · go_wp2_with fail
      refine (unhide D1).mono ?_
      rintro e w1 ⟨rfl, hw⟩
      rw [hw]
      clear hw w1
      go_wp2_with fail
      go_roundw
      case rel => exact ⟨by trivial, Or.inr (Or.inr (Or.inl rfl))⟩
      case measure => simp [intOf]
    · go_wp2_with fail
      refine (unhide D2).mono ?_
      rintro e w1 ⟨rfl, hw⟩
      rw [hw]
      clear hw w1
      go_wp2_with fail
      go_roundw
      case rel => exact ⟨by trivial, Or.inr (Or.inr (Or.inr (Or.inl rfl)))⟩
      case measure => simp [intOf]
    · go_wp2_with fail
      refine (unhide D3).mono ?_
      rintro e w1 ⟨rfl, hw⟩
      rw [hw]
      clear hw w1
      go_wp2_with fail
      go_roundw
      case rel => exact ⟨by trivial, Or.inr (Or.inr (Or.inr (Or.inr (rfl))))⟩
      case measure => simp [intOf]
    · clear D0 D1 D2 D3 ix0 ix1 ix2 ix3 c5 c6 c7 c8 c9 c10 c11 c12 c13 c14
      clear c1 c2 c3 c4 c15
      go_wp2_with fail
      refine (unhide CG).mono ?_
      rintro e w2 ⟨rfl, g2⟩
      obtain ⟨b1, b2⟩ := unhide BG w2 g2
      have C := hide (unhide CT w2 g2)
      clear CG CT BG g2 c0 c16
      go_wp2_with fail
      refine (unhide C).mono ?_
      rintro e w3 ⟨q, rfl, hK⟩
      replace hK := hide hK
      clear C b1 b2
      go_wp2_with fail
      refine bodyPost_ret (by simp [results, Tryz.results27, go_sem]; try rfl) rfl ?_
      exact unhide hK
end Go.Proofs.YtnliooflpclcbaaGreatDoor
