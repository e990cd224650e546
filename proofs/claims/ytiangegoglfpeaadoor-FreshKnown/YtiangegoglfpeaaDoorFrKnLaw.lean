/- FreshKnown: what chapter 11 says of a few writes. No condition. -/
import Derived.Test.YtiangegoglfpeaaDoorMfN
import Derived.Test.YtiangegoglfpeaaDoorCodeOpen
namespace Go.Proofs.YtiangegoglfpeaaDoor
set_option maxRecDepth 100000
open Go.RowKit Go.Maps Go.ChangeShapes Go.WideShapes Go.ChangeAt Go.Deep

theorem rowI_cut {w : World} {ib n c : Nat} {l : List In} (h : RowAt elIn w (some ⟨ib, 0, none⟩) n c l) (k : Nat) (hk : k ≤ n) : RowAt elIn w (some ⟨ib, 0, none⟩) k c (l.take k) := by
  obtain ⟨h1, h2, h3, h4⟩ := h
  refine ⟨by rw [List.length_take]; omega, by omega, h3, ?_⟩
  rcases h4 with h4 | ⟨b, off, e0, hlt, hc⟩
  · exact Or.inl (by omega)
  · refine Or.inr ⟨b, off, e0, hlt, fun i a hi => hc i a ?_⟩
    rw [List.getElem?_take] at hi
    split at hi
    · exact hi
    · cases hi
/-- A row of instructions is appended to a row of the call's own. -/
theorem own_app_src {w : World} {B : Nat} {v : Value} {l : List In} (l2 : List In) (h : OwnIn w B v l) (hB : B ≤ w.heap.size) (hn : l.length + l2.length ≤ 1000) (ib m c : Nat) (hm : l2.length = m) (hr : RowAt elIn w (some ⟨ib, 0, none⟩) m c l2) :
    ∃ v' w', (Builtin.append_ #[30, 30] 30 #[v, .slice (some ⟨ib, 0, none⟩) m c]).run Tryd.prog w = .ok v' w' ∧ OwnIn w' B v' (l ++ l2) ∧ TrD w w' (fun k => v.ownBlock = some k) ∧ (v'.ownBlock = v.ownBlock ∨ v'.ownBlock = some w.heap.size) := by
  subst hm
  obtain ⟨i, hi, hz, hs, hb⟩ := info_parts info_instr
  obtain ⟨v', w', hrun, r1, r2, _, r4⟩ := run_append_own_at (P := Tryd.prog) w B 30 30 37 i _ 5 40 Tryd.underlying30 hi hz hs hb rfl (by decide) v l.length _ h ⟨ib, 0, none⟩ l2.length c (insV l2) (insV_len l2) (fun j u hj => by
      rw [Addr.add_lit, Nat.zero_add]
      have hjl : j < l2.length * 5 := by rw [← insV_len]; exact (List.getElem?_eq_some_iff.1 hj).1
      obtain ⟨a, ha⟩ : ∃ a, l2[j / 5]? = some a := ⟨_, List.getElem?_eq_getElem (by omega)⟩
      have hq : (inV a)[j % 5]? = some ((inV a)[j % 5]'(by show j % 5 < 5; omega)) := List.getElem?_eq_getElem _
      have hg := insV_get l2 (j / 5) a (j % 5) _ ha hq
      rw [show j / 5 * 5 + j % 5 = j by omega, hj] at hg
      rw [hg]
      rcases hr.2.2.2 with h0 | ⟨b, off, e, _, hc⟩
      · omega
      · cases e
        obtain ⟨cs, ecs, hcs⟩ := hc (j / 5) a ha
        have ecs : cs = inV a := ecs
        subst ecs
        have := hcs (j % 5) _ hq
        rw [show (0 + j / 5 * elIn.sz) + j % 5 = j by show 0 + j / 5 * 5 + j % 5 = j; omega] at this
        exact this) (insV_one l2) (by unfold maxLen; omega) (by omega) hB
  refine ⟨v', w', hrun, ?_, ⟨r2.os, r2.tape, r2.output, r2.size, fun k hk hne => r2.block k hk (fun e => hne e.symm)⟩, r4⟩
  show w'.ownsRow B 37 5 v' (l ++ l2).length (insV (l ++ l2))
  rw [List.length_append, insV_app]
  exact r1
theorem ol_2 : ∀ i ∈ prI2, oIn i := pr_oIn _ (by decide)
/-- What stands behind the two appends. -/
theorem kn_apps {X : World} {ib c : Nat} (hr : RowAt elIn X (some ⟨ib, 0, none⟩) 4 c (prI false)) :
    ∃ v1 x1 ib2 c2 x2, (Builtin.append_ #[30, 30] 30 #[.slice (some ⟨X.heap.size, 0, none⟩) 0 0, .slice (some ⟨ib, 0, none⟩) 3 c]).run Tryd.prog (X.alloc (.cells #[] 37)) = .ok v1 x1 ∧
      (Builtin.append_ #[30, 30] 30 #[v1, .slice (some ⟨x1.heap.size, 0, none⟩) 2 2]).run Tryd.prog (x1.alloc (.cells #[.int .i64 28, .int .i64 0, .int .i64 0, .int .i64 1, .int .i64 0, .int .i64 22, .int .i64 (-1), .int .i64 0, .int .i64 0, .int .i64 0] 37)) = .ok (.slice (some ⟨ib2, 0, none⟩) 5 c2) x2 ∧
      G X x2 ∧ X.heap.size ≤ ib2 ∧ 5 ≤ c2 ∧ RowAt elIn x2 (some ⟨ib2, 0, none⟩) 5 c2 prI2 := by
  have g0 := G.alloc X (.cells #[] 37)
  have o0 : OwnIn (X.alloc (.cells #[] 37)) X.heap.size (.slice (some ⟨X.heap.size, 0, none⟩) 0 0) [] := World.ownsRow_lit X #[] 0 (Nat.le_refl _) (by unfold maxLen; decide) rfl
  have hr3 := rowI_cut (hr.g okIn g0) 3 (by decide)
  obtain ⟨v1, x1, h1, o1, t1, b1⟩ := own_app_src ((prI false).take 3) o0 g0.size (by decide) ib 3 c rfl hr3
  have g1 : G X x1 := ⟨t1.os.trans g0.os, t1.tape.trans g0.tape, t1.output.trans g0.output, Nat.le_trans g0.size t1.size, fun k hk => (t1.block k (Nat.lt_of_lt_of_le hk g0.size) (fun e => by simp [Value.ownBlock] at e; omega)).trans (g0.block k hk)⟩
  obtain ⟨v2, x2, h2, o2, t2, b2⟩ := own_app_in [⟨28, 0, 0, 1, 0⟩, ⟨22, -1, 0, 0, 0⟩] o1 g1.size (by decide)
  have hv1 : ∀ k, v1.ownBlock = some k → X.heap.size ≤ k := fun k hk => by
    rcases b1 with e | e
    · rw [e] at hk; simp [Value.ownBlock] at hk; omega
    · rw [e] at hk; have := Option.some.inj hk; have := g0.size; omega
  obtain ⟨ib2, c2, e, hib, hcp, hrow⟩ := o2.row (by decide)
  refine ⟨v1, x1, ib2, c2, x2, h1, by rw [show Value.slice (some ⟨ib2, 0, none⟩) 5 c2 = v2 from e.symm]; exact h2, ⟨t2.os.trans g1.os, t2.tape.trans g1.tape, t2.output.trans g1.output, Nat.le_trans g1.size t2.size, fun k hk => (t2.block k (Nat.lt_of_lt_of_le hk g1.size) (fun e => by have := hv1 k e; omega)).trans (g1.block k hk)⟩, hib, hcp, hrow⟩
def emF : Fn := ⟨0, 0, 3, 0, [], [], []⟩
theorem em_sets {x : World} {sb kb ib c : Nat} {l : List In} (P : PrAt x sb kb ib c l) (ht : TabZ x) (hw : RowsAt x) :
    Calls Tryd.prog 10 #[agPm sb, .agg #[.int .i64 0, .int .i64 0, .int .i64 3, .int .i64 0, .slice none 0 0, .slice none 0 0, .slice none 0 0]] x fun e w' => (∃ b, e = .returned (.slice (some ⟨b, 0, none⟩) 0 0)) ∧ G x w' := by
  refine (fsets_any x prM (some ⟨sb, 0, none⟩) 1 none 0 none 0 none 0 none 0 emF none 0 none 0 none 0 P.modR (RowAt.nil x) ht hw (fun c hc => by cases hc) (fun c hc => by cases hc) (by decide)).mono ?_
  rintro e w' ⟨b, rb, he, g, _⟩
  exact ⟨⟨b, he⟩, g⟩
set_option maxHeartbeats 1000000 in
theorem walk_FreshKnown (W : World) (hL : laidMetH Tryd.prog laid9 W) : Calls Tryd.prog 3 #[] W fun e w' => e = .returned (.bool true) ∧ G W w' := by
  have ht := tabz_of_laid hL
  have hw := rows_of_laid hL
  have AW := hide (awake11 W ht hw)
  have PA : Hid (∀ x, Calls Tryd.prog 8 #[.bool false] x fun e w' => ∃ sb kb ib c, e = .returned (.tuple #[agPm sb, agPf kb ib 4 c]) ∧ Hid (PrAt w' sb kb ib c (prI false) ∧ G x w')) := hide fun x => (pair_any x false).mono fun e w' ⟨sb, kb, ib, c, he, hp, g⟩ => ⟨sb, kb, ib, c, he, hide ⟨hp, g⟩⟩
  have TT : Hid (∀ x, G W x → TabZ x ∧ RowsAt x) := hide fun x g => ⟨ht.g g, hw.g g⟩
  clear ht hw hL
  go_enter Tryd.func3, Tryd.ntmps3
  go_wp2_with fail
  refine (unhide AW).mono ?_
  rintro e w0 ⟨rfl, g0⟩
  replace g0 := hide g0
  clear AW
  go_wp2_with fail
  refine (unhide PA w0).mono ?_
  rintro e w1 ⟨sb, kb, ib, c, rfl, P1⟩
  clear PA
  go_upto_region 4 with fail
  obtain ⟨X1, hX1⟩ : ∃ X1, X1 = ((w1.alloc (.cells #[.slice (some ⟨sb, 0, none⟩) 1 1, .slice none 0 0, .slice none 0 0, .slice none 0 0, .slice none 0 0, .int .i64 0] 29)).alloc (.cells #[.int .i64 0, .int .i64 0, .int .i64 2, .int .i64 0, .slice (some ⟨kb, 0, none⟩) 2 2, .slice (some ⟨ib, 0, none⟩) 4 c, .slice none 0 0] 33)) := ⟨_, rfl⟩
  rw [← hX1]
  have B1 := hide (pr_box w1 sb kb ib 4 c)
  rw [← hX1] at B1
  have G1 : Hid (G w1 X1) := hide (by rw [hX1]; exact ((G.refl w1).more _).more _)
  have fr1 : X1.frozen? ⟨w1.heap.size + 1, 5, none⟩ = false := by
    have e := heap_alloc_new (w1.alloc (.cells #[.slice (some ⟨sb, 0, none⟩) 1 1, .slice none 0 0, .slice none 0 0, .slice none 0 0, .slice none 0 0, .int .i64 0] 29)) (.cells #[.int .i64 0, .int .i64 0, .int .i64 2, .int .i64 0, .slice (some ⟨kb, 0, none⟩) 2 2, .slice (some ⟨ib, 0, none⟩) 4 c, .slice none 0 0] 33)
    rw [← hX1, World.size_alloc] at e
    exact fro_new _ _ _ _ e 5
  have sz1 : w1.heap.size + 2 = X1.heap.size := by rw [hX1, World.size_alloc, World.size_alloc]
  clear hX1
  obtain ⟨v1, x1, ib2, c2, x2, hrun1, hrun2, gx2, hib2, hc5, hrow⟩ := kn_apps ((unhide P1).1.i.g okIn (unhide G1))
  have hcc : 4 ≤ c := (unhide P1).1.cp
  have hc3 : (3 : Int) ≤ (c : Int) := by omega
  have hc3n : 3 ≤ c := by omega
  clear hcc
  have c4 := (unhide B1 X1 (G.refl _)).2.2.2.2.2.2.1
  have c4a : (X1.alloc (.cells #[] 37)).cell? ⟨w1.heap.size + 1, 5, none⟩ = some (.slice (some ⟨ib, 0, none⟩) 4 c) := (G.alloc X1 _).cell c4
  have d4 := gx2.cell c4
  have fr2 : x2.frozen? ⟨w1.heap.size + 1, 5, none⟩ = false := (World.frozen?_of_block (a := ⟨w1.heap.size + 1, 5, none⟩) (gx2.block (w1.heap.size + 1) (by omega))).trans fr1
  obtain ⟨Y, hY⟩ : ∃ Y, Y = x2.setCell ⟨w1.heap.size + 1, 5, none⟩ (.slice (some ⟨ib2, 0, none⟩) 5 c2) := ⟨_, rfl⟩
  have hk : ∀ b, b < X1.heap.size → b ≠ w1.heap.size + 1 → Y.heap[b]? = X1.heap[b]? := fun b hb hne => by
    rw [hY, Below.heap_setCell _ _ _ _ (by simpa using hne)]
    exact gx2.block b hb
  have hszY : X1.heap.size ≤ Y.heap.size := by rw [hY, World.size_setCell]; exact gx2.size
  have GY1 : G w1 Y := ⟨by rw [hY]; exact gx2.os.trans (unhide G1).os, by rw [hY]; exact gx2.tape.trans (unhide G1).tape, by rw [hY]; exact gx2.output.trans (unhide G1).output, by omega, fun b hb => (hk b (by omega) (by omega)).trans ((unhide G1).block b hb)⟩
  have PY : PrAt Y sb kb ib2 c2 prI2 := by
    refine ⟨(unhide P1).1.s.g okSp GY1, (unhide P1).1.k.g okB GY1, ?_, hc5⟩
    obtain ⟨h1, h2, h3, h4⟩ := hrow
    refine ⟨h1, h2, h3, ?_⟩
    rcases h4 with h4 | ⟨b, off, e0, hlt, hc⟩
    · exact Or.inl h4
    · cases e0
      refine Or.inr ⟨ib2, 0, rfl, by rw [hY, World.size_setCell]; exact hlt, fun i a hi => ?_⟩
      obtain ⟨cs, hcs, hv⟩ := hc i a hi
      exact ⟨cs, hcs, hv.kept (by rw [hY]; exact Below.heap_setCell _ _ _ _ (by show ib2 ≠ w1.heap.size + 1; omega))⟩
  have BY : Hid (∀ x, G Y x → (x.cell? ⟨w1.heap.size, 0, none⟩ = some (.slice (some ⟨sb, 0, none⟩) 1 1) ∧ x.cell? ⟨w1.heap.size, 1, none⟩ = some (.slice none 0 0) ∧ x.cell? ⟨w1.heap.size, 2, none⟩ = some (.slice none 0 0) ∧ x.cell? ⟨w1.heap.size, 3, none⟩ = some (.slice none 0 0) ∧ x.cell? ⟨w1.heap.size, 4, none⟩ = some (.slice none 0 0) ∧ x.cell? ⟨w1.heap.size, 5, none⟩ = some (.int .i64 0)) ∧
    (x.cell? ⟨w1.heap.size + 1, 0, none⟩ = some (.int .i64 0) ∧ x.cell? ⟨w1.heap.size + 1, 1, none⟩ = some (.int .i64 0) ∧ x.cell? ⟨w1.heap.size + 1, 2, none⟩ = some (.int .i64 2) ∧ x.cell? ⟨w1.heap.size + 1, 3, none⟩ = some (.int .i64 0) ∧ x.cell? ⟨w1.heap.size + 1, 4, none⟩ = some (.slice (some ⟨kb, 0, none⟩) 2 2) ∧ x.cell? ⟨w1.heap.size + 1, 5, none⟩ = some (.slice (some ⟨ib2, 0, none⟩) 5 c2) ∧ x.cell? ⟨w1.heap.size + 1, 6, none⟩ = some (.slice none 0 0))) := hide fun x g => by
    obtain ⟨⟨a0, a1, a2, a3, a4, a5⟩, ⟨b0, b1, b2, b3, b4, b5, b6⟩⟩ := unhide B1 x2 gx2
    have e0 : ∀ i u, x2.cell? ⟨w1.heap.size, i, none⟩ = some u → x.cell? ⟨w1.heap.size, i, none⟩ = some u := fun i u hu => g.cell (by rw [hY, cell_other _ (Or.inl (by omega))]; exact hu)
    have e1 : ∀ i u, i ≠ 5 → x2.cell? ⟨w1.heap.size + 1, i, none⟩ = some u → x.cell? ⟨w1.heap.size + 1, i, none⟩ = some u := fun i u hi hu => g.cell (by rw [hY, cell_other _ (Or.inr hi)]; exact hu)
    exact ⟨⟨e0 0 _ a0, e0 1 _ a1, e0 2 _ a2, e0 3 _ a3, e0 4 _ a4, e0 5 _ a5⟩, ⟨e1 0 _ (by decide) b0, e1 1 _ (by decide) b1, e1 2 _ (by decide) b2, e1 3 _ (by decide) b3, e1 4 _ (by decide) b4, g.cell (by rw [hY]; exact cell_same _ b5), e1 6 _ (by decide) b6⟩⟩
  have GY : Hid (G W Y) := hide (((unhide g0).trans (unhide P1).2).trans GY1)
  have PX : Hid (∀ x, G Y x → PrAt x sb kb ib2 c2 prI2) := hide fun x g => PY.g g
  have TX : Hid (∀ x, G Y x → TabZ x ∧ RowsAt x) := hide fun x g => unhide TT x ((unhide GY).trans g)
  have SP : Hid (∀ x, G Y x → ∀ pc v, spP prM (prF prI2) pc = v → Calls Tryd.prog 9 #[agPm sb, agPf kb ib2 5 c2, .int .i64 pc] x fun e w' => e = .returned (.bool v) ∧ G x w') := hide fun x g pc v hv => pr_spare (unhide PX x g) (unhide TX x g).1 (unhide TX x g).2 5 rfl (by decide) ol_2 pc v hv
  have ES : Hid (∀ x, G Y x → Calls Tryd.prog 10 #[agPm sb, .agg #[.int .i64 0, .int .i64 0, .int .i64 3, .int .i64 0, .slice none 0 0, .slice none 0 0, .slice none 0 0]] x fun e w' => (∃ b, e = .returned (.slice (some ⟨b, 0, none⟩) 0 0)) ∧ G x w') := hide fun x g => em_sets (unhide PX x g) (unhide TX x g).1 (unhide TX x g).2
  clear GY1 PY hk hszY sz1 hrow gx2 hib2 hc5 fr1 P1 B1 G1 TT PX TX g0
  go_upto_region 5 with (first | (at_builtin; refine wpl_apx rfl (.tmp 9) (.tmp 12) 30 rfl _ _ rfl rfl _ _ hrun1 ?_) | (at_builtin; refine wpl_apx rfl (.tmp 13) (.tmp 16) 30 rfl _ _ rfl rfl _ _ hrun2 ?_))
  rw [← hY]
  clear hY hrun1 hrun2 d4 c4 c4a fr2
  have GZ : Hid (G Y Y) := hide (G.refl Y)
  obtain ⟨⟨a0, a1, a2, a3, a4, a5⟩, ⟨b0, b1, b2, b3, b4, b5, b6⟩⟩ := unhide BY Y (unhide GZ)
  go_wp2_with fail
  refine (unhide SP Y (unhide GZ) 2 true sp_22).mono ?_
  rintro e y1 ⟨rfl, gq⟩
  replace GZ := hide ((unhide GZ).trans gq)
  clear gq a0 a1 a2 a3 a4 a5 b0 b1 b2 b3 b4 b5 b6
  obtain ⟨⟨a0, a1, a2, a3, a4, a5⟩, ⟨b0, b1, b2, b3, b4, b5, b6⟩⟩ := unhide BY y1 (unhide GZ)
  go_wp2_with fail
  refine (unhide SP y1 (unhide GZ) 3 false sp_23).mono ?_
  rintro e y2 ⟨rfl, gq⟩
  replace GZ := hide ((unhide GZ).trans gq)
  clear gq a0 a1 a2 a3 a4 a5 b0 b1 b2 b3 b4 b5 b6
  obtain ⟨⟨a0, a1, a2, a3, a4, a5⟩, ⟨b0, b1, b2, b3, b4, b5, b6⟩⟩ := unhide BY y2 (unhide GZ)
  go_wp2_with fail
  refine (unhide SP y2 (unhide GZ) 0 false sp_20).mono ?_
  rintro e y3 ⟨rfl, gq⟩
  replace GZ := hide ((unhide GZ).trans gq)
  clear gq a0 a1 a2 a3 a4 a5 b0 b1 b2 b3 b4 b5 b6
  obtain ⟨⟨a0, a1, a2, a3, a4, a5⟩, ⟨b0, b1, b2, b3, b4, b5, b6⟩⟩ := unhide BY y3 (unhide GZ)
  go_wp2_with fail
  refine (unhide SP y3 (unhide GZ) (-1) false sp_2m).mono ?_
  rintro e y4 ⟨rfl, gq⟩
  replace GZ := hide ((unhide GZ).trans gq)
  clear gq a0 a1 a2 a3 a4 a5 b0 b1 b2 b3 b4 b5 b6
  obtain ⟨⟨a0, a1, a2, a3, a4, a5⟩, ⟨b0, b1, b2, b3, b4, b5, b6⟩⟩ := unhide BY y4 (unhide GZ)
  go_wp2_with fail
  refine (unhide SP y4 (unhide GZ) 99 false sp_29).mono ?_
  rintro e y5 ⟨rfl, gq⟩
  replace GZ := hide ((unhide GZ).trans gq)
  clear gq a0 a1 a2 a3 a4 a5 b0 b1 b2 b3 b4 b5 b6
  obtain ⟨⟨a0, a1, a2, a3, a4, a5⟩, _⟩ := unhide BY y5 (unhide GZ)
  go_wp2_with fail
  refine (unhide ES y5 (unhide GZ)).mono ?_
  rintro e y6 ⟨⟨bb, rfl⟩, g6⟩
  have GF := hide ((unhide GY).trans ((unhide GZ).trans g6))
  clear ES GZ g6 a0 a1 a2 a3 a4 a5
  go_wp2_with fail
  go_ret
  exact ⟨rfl, unhide GF⟩

set_option maxRecDepth 100000 in
theorem lifted_FreshKnown (os : Os) (started : os.Started) (H : Type) (enc : TypeId × Value → H) :
    ReturnsInHanded {} Tryd.checked os 3 .any (fun w args => (Rows.freshKnownSpec.pre enc Tryd.prog Tryd.f3 [] false w args ∧ laidMetH Tryd.prog laid9 w) ∧ sizedMet enc Tryd.prog Tryd.f3 (OpenSpec.ofChange Rows.freshKnownSpec) false w args)
      (Rows.freshKnownSpec.post enc Tryd.prog Tryd.f3 false true false false) := by
  refine returnsInHanded_of_change_and (C := Tryd.checked) (X := fun w _ => laidMetH Tryd.prog laid9 w) (fun _ _ _ hh h => h.of_heap hh) own started (by kernel_rfl) Tryd.func3
    (ChangeSpec.witness_shaped (enc := enc) (C := Tryd.checked) (os := os) (X := fun w _ => laidMetH Tryd.prog laid9 w) false (World.doorLaid Tryd.prog 400 os) #[] 8 rfl (World.shaped_of_RefB (by kernel_rfl) (by kernel_rfl)) (by kernel_rfl) (by kernel_rfl) (by kernel_rfl) (door_met os _)) ?_
  intro W base args ds gs before hval0 hW _ _ hL _
  have hval : ∀ (j : Nat) t v, Tryd.f3.params[j]? = some t → args[j]? = some v → Value.okWide Tryd.prog W .any base t v := hval0
  have hW' := hW
  obtain ⟨p, q, hA0, hV, rfl, hfz, hnd⟩ := hW
  have hA : DataW.TrodAll enc Tryd.prog W 0 (fun _ => true) true Tryd.f3.params.toList args.toList ds p := hA0
  rw [Tryd.params3] at hA hval
  obtain ⟨rfl, rfl, rfl⟩ := trodAll_none hA
  obtain ⟨rfl, rfl⟩ := trodVars_none hV
  clear hA0 hval0
  refine (walk_FreshKnown  W hL ).mono fun e W' ⟨he, hg⟩ => ?_
  subst he
  exact ⟨_, rfl, _, _, _, [], [], [], hW', trodAll_mk1 (shut_bool Tryd.underlying4 _), trodAll_mk0, rfl, hg.frame _, fun h => by cases h⟩

theorem row_FreshKnown : Rows.FreshKnownSaid :=
  OpenClaim.holds_of_wide 3 Tryd.f3 rfl rfl rfl rfl rfl rfl rfl ⟨rfl, rfl, rfl, rfl, rfl⟩ rfl rfl rfl rfl rfl (by kernel_rfl) Tryd.func3 (by kernel_rfl)
    (of_decide_eq_true (by kernel_rfl)) (by unfold Func.isWrapper; first | (rw [if_pos (by decide +kernel)]; kernel_rfl) | (rw [if_neg (by decide +kernel)]; exact ⟨rfl, rfl⟩))
    (fun os started H enc _ => lifted_FreshKnown os started H enc)

/-- THE STATEMENT. -/
theorem card_FreshKnown : Rows.FreshKnownCardSaid :=
  Claim7.holds_tied_plain_at .later [] [.data, .data] true (true, "ae6be65f98e88becfe85b4818990ec1f8146fa15725bac7e4b6f792bf031baa6") true
    row_FreshKnown (fun _ h => by cases h) (by kernel_rfl) (fun _ h => by cases h) freshKnown_row_tie rfl ⟨rfl, rfl⟩ (by kernel_rfl) rfl
    (fun f fn hf hfn => by
      obtain rfl : f = 3 := Option.some.inj ((show Tryd.prog.funcNamed "gantline/gantlinelaw11.FreshKnown" = some 3 by kernel_rfl).symm.trans hf) |>.symm
      obtain rfl : fn = Tryd.f3 := (Option.some.inj (Tryd.func3.symm.trans hfn)).symm
      exact ⟨by kernel_rfl, fun j t ht => by
        rw [Tryd.params3] at ht
        simp at ht⟩)
    (by kernel_rfl)
#print axioms card_FreshKnown
end Go.Proofs.YtiangegoglfpeaaDoor
