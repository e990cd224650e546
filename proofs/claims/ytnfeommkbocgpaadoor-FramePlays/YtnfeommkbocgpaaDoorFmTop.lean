/- copyOf, Top of package frame. -/
import Derived.Test.YtnfeommkbocgpaaDoorFmNew2
namespace Go.Proofs.YtnfeommkbocgpaaDoor
open Go.RowKit Go.Maps Go.ChangeShapes Go.WideShapes Go.ChangeAt Go.Deep

theorem own_empty0 (w : World) (e : TypeId) (size : Nat) : (w.alloc (.cells #[] e)).ownsRow w.heap.size e size (.slice (some ⟨w.heap.size, 0, none⟩) 0 0) 0 [] :=
  ⟨by simp, Or.inr ⟨w.heap.size, 0, #[], rfl, Nat.le_refl _, heap_alloc_new w _, Nat.le_refl _, Nat.zero_le _, by simp, by simp⟩⟩
theorem cl_run (w : World) (sb sc : Nat) (l : List Int) (hc : ∀ j x, l[j]? = some x → w.cell? ⟨sb, j, none⟩ = some (.int .i64 x)) (hn : l.length ≤ 1000) :
    ∃ b c' x', (Builtin.append_ #[29, 29] 29 #[.slice (some ⟨w.heap.size, 0, none⟩) 0 0, .slice (some ⟨sb, 0, none⟩) l.length sc]).run Tryd.prog (w.alloc (.cells #[] 2)) = .ok (.slice (some ⟨b, 0, none⟩) l.length c') x' ∧ x'.ownsRow w.heap.size 2 1 (.slice (some ⟨b, 0, none⟩) l.length c') l.length (l.map (Value.int .i64)) ∧ G w x' := by
  obtain ⟨i, hi, hz, hs, hb⟩ := info_parts info_int64
  obtain ⟨v', x3, hrun, r1, r2, r3, r4⟩ := run_append_own_at (P := Tryd.prog) (w.alloc (.cells #[] 2)) w.heap.size 29 29 2 i _ 1 8 Tryd.underlying29 hi hz hs hb rfl (by decide) _ 0 [] (own_empty0 w 2 1) ⟨sb, 0, none⟩ l.length sc (l.map (Value.int .i64)) (by simp)
    (fun j u hj => by
      rw [List.getElem?_map] at hj
      obtain ⟨z, hz1, rfl⟩ := Option.map_eq_some_iff.1 hj
      rw [Addr.add_lit, Nat.zero_add]
      exact (G.alloc w _).cell (hc j z hz1)) (fun u hu => by obtain ⟨z, _, rfl⟩ := List.mem_map.1 hu; rfl) (by unfold maxLen; omega) (by omega) (by rw [World.size_alloc]; omega)
  rw [Nat.zero_add, List.nil_append] at r1
  rcases r1.2 with ⟨e, _⟩ | ⟨g, cap', cur, rfl, _⟩
  · exact absurd (r3.1 e).1 (by simp)
  · exact ⟨g, cap', x3, hrun, r1, Below.grown (G.alloc w _) r2 (by rw [World.size_alloc]; omega) (fun q hq => by cases hq; exact Nat.le_refl _)⟩
set_option maxHeartbeats 1000000 in
theorem clone_any (w : World) (sb sc n : Nat) (l : List Int) (hl : l.length = n) (hc : ∀ j x, l[j]? = some x → w.cell? ⟨sb, j, none⟩ = some (.int .i64 x)) (hn : l.length ≤ 1000) :
    Calls Tryd.prog 35 #[.slice (some ⟨sb, 0, none⟩) n sc] w fun e w' => ∃ b c', e = .returned (.slice (some ⟨b, 0, none⟩) n c') ∧ w'.ownsRow w.heap.size 2 1 (.slice (some ⟨b, 0, none⟩) n c') n (l.map (Value.int .i64)) ∧ G w w' := by
  obtain ⟨b, c', x', hrun, h1, h2⟩ := cl_run w sb sc l hc hn
  rw [hl] at hrun h1
  have H := hide (show _ ∧ _ from ⟨h1, h2⟩)
  have hnil : (binOp .eql 29 (.slice (some ⟨sb, 0, none⟩) n sc) (.slice none 0 0)).run Tryd.prog w = .ok (.bool false) w := Lib.run_eql_slice_nil w 29 2 (some ⟨sb, 0, none⟩) n sc 0 0 Tryd.underlying29
  clear h1 h2 hc hn hl
  go_enter Tryd.func35, Tryd.ntmps35
  go_wp2_with (at_builtin; refine wpl_apr rfl (.tmp 5) (.tmp 6) 29 rfl _ _ rfl rfl _ _ hrun ?_)
  go_ret
  exact ⟨b, c', rfl, (unhide H).1, (unhide H).2⟩
/-- A frame that is answered: its slots anew. -/
abbrev agFr (fn pc : Int) (b n c : Nat) : Value := .agg #[.int .i64 fn, .int .i64 pc, .slice (some ⟨b, 0, none⟩) n c]
def CpTo (w : World) (f : Fr) (b c : Nat) (w' : World) : Prop := w'.ownsRow w.heap.size 2 1 (.slice (some ⟨b, 0, none⟩) f.sl.length c) f.sl.length (f.sl.map (Value.int .i64)) ∧ G w w'
set_option maxHeartbeats 1000000 in
theorem copyOf_any (w : World) (f : Fr) (n : Nat) (hl : f.sl.length = n) (hc : ∀ j x, f.sl[j]? = some x → w.cell? ⟨f.sb, j, none⟩ = some (.int .i64 x)) (hn : f.sl.length ≤ 1000) :
    Calls Tryd.prog 32 #[agFr f.fn f.pc f.sb n f.sc] w fun e w' => ∃ b c, e = .returned (agFr f.fn f.pc b n c) ∧ CpTo w f b c w' := by
  have CL : Hid (∀ x, G w x → Calls Tryd.prog 35 #[.slice (some ⟨f.sb, 0, none⟩) n f.sc] x fun e w' => ∃ b c', e = .returned (.slice (some ⟨b, 0, none⟩) n c') ∧ Hid (w'.ownsRow x.heap.size 2 1 (.slice (some ⟨b, 0, none⟩) n c') n (f.sl.map (Value.int .i64))) ∧ G x w') := hide fun x g => (clone_any x f.sb f.sc n f.sl hl (fun j y h => g.cell (hc j y h)) hn).mono (by
    rintro e w' ⟨b, c', h1, h2, h3⟩
    exact ⟨b, c', h1, hide h2, h3⟩)
  have FI : Hid (∀ x y b c', G w x → w.heap.size + 2 ≤ x.heap.size → y.ownsRow x.heap.size 2 1 (.slice (some ⟨b, 0, none⟩) n c') n (f.sl.map (Value.int .i64)) → G x y → ∀ v0 v1 v2 v3, CpTo w f b c' ((((y.setCell ⟨w.heap.size, 2, none⟩ v0).setCell ⟨w.heap.size + 1, 0, none⟩ v1).setCell ⟨w.heap.size + 1, 1, none⟩ v2).setCell ⟨w.heap.size + 1, 2, none⟩ v3)) := hide fun x y b c' gx hsz ho gy v0 v1 v2 v3 => by
    have hlo := own_lo ho
    have gwy := gx.trans gy
    have go : G w ((((y.setCell ⟨w.heap.size, 2, none⟩ v0).setCell ⟨w.heap.size + 1, 0, none⟩ v1).setCell ⟨w.heap.size + 1, 1, none⟩ v2).setCell ⟨w.heap.size + 1, 2, none⟩ v3) := (((gwy.set _ _ _ (Nat.le_refl _)).set _ _ _ (by omega)).set _ _ _ (by omega)).set _ _ _ (by omega)
    refine ⟨?_, go⟩
    rw [hl]
    have h1 := own_keep1 (w' := ((((y.setCell ⟨w.heap.size, 2, none⟩ v0).setCell ⟨w.heap.size + 1, 0, none⟩ v1).setCell ⟨w.heap.size + 1, 1, none⟩ v2).setCell ⟨w.heap.size + 1, 2, none⟩ v3)) ho (by
      rw [heap_set _ _ (show b ≠ w.heap.size + 1 by omega), heap_set _ _ (show b ≠ w.heap.size + 1 by omega), heap_set _ _ (show b ≠ w.heap.size + 1 by omega), heap_set _ _ (show b ≠ w.heap.size by omega)])
    refine ⟨h1.1, ?_⟩
    rcases h1.2 with h' | ⟨g', cap', cur, h', hb2, hr⟩
    · exact Or.inl h'
    · exact Or.inr ⟨g', cap', cur, h', by omega, hr⟩
  obtain ⟨fn, pc, sb, sc, sl⟩ := f
  simp only at CL FI ⊢
  unfold agFr
  clear hc hn hl
  have G2 : Hid (∀ o1 o2, G w ((w.alloc o1).alloc o2) ∧ w.heap.size + 2 ≤ ((w.alloc o1).alloc o2).heap.size) := hide fun o1 o2 => ⟨(G.alloc _ _).more _, by rw [World.size_alloc, World.size_alloc]; omega⟩
  go_enter Tryd.func32, Tryd.ntmps32
  go_wp2_with fail
  refine (unhide CL _ (unhide G2 _ _).1).mono ?_
  rintro e w1 ⟨b, c', rfl, H1, g1⟩
  have e0 := g1.cell (x := ⟨w.heap.size, 0, none⟩) (v := .int .i64 fn) (by simp [go_sem])
  have e1 := g1.cell (x := ⟨w.heap.size, 1, none⟩) (v := .int .i64 pc) (by simp [go_sem])
  have e2 := g1.cell (x := ⟨w.heap.size, 2, none⟩) (v := .slice (some ⟨sb, 0, none⟩) n sc) (by simp [go_sem])
  have r0 := g1.cell (x := ⟨w.heap.size + 1, 0, none⟩) (v := .int .i64 0) (by simp [go_sem])
  have r1 := g1.cell (x := ⟨w.heap.size + 1, 1, none⟩) (v := .int .i64 0) (by simp [go_sem])
  have r2 := g1.cell (x := ⟨w.heap.size + 1, 2, none⟩) (v := .slice none 0 0) (by simp [go_sem])
  have fz : ∀ i, w1.frozen? ⟨w.heap.size, i, none⟩ = false := fun i => (World.frozen?_of_block (a := ⟨w.heap.size, i, none⟩) (g1.block _ (by show w.heap.size < _; rw [World.size_alloc, World.size_alloc]; omega))).trans (by simp [go_sem])
  have fz2 : ∀ i, w1.frozen? ⟨w.heap.size + 1, i, none⟩ = false := fun i => (World.frozen?_of_block (a := ⟨w.heap.size + 1, i, none⟩) (g1.block _ (by show w.heap.size + 1 < _; rw [World.size_alloc, World.size_alloc]; omega))).trans (by simp [go_sem])
  have f2 := fz 2
  have q0 := fz2 0
  have q1 := fz2 1
  have q2 := fz2 2
  have FK := hide (unhide FI _ w1 b c' (unhide G2 _ _).1 (unhide G2 _ _).2 (unhide H1) g1)
  clear g1 H1 G2 FI CL fz fz2
  go_wp2_with fail
  refine bodyPost_ret (by simp [results, Tryd.results32, go_sem, r0, r1, r2]; try rfl) rfl ?_
  exact ⟨b, c', rfl, unhide FK _ _ _ _⟩
theorem CpTo.top {w x y : World} {f : Fr} {b c : Nat} (gx : G w x) (hsz : w.heap.size + 1 ≤ x.heap.size) (h : CpTo x f b c y) (v1 v2 v3 : Value) : CpTo w f b c (((y.setCell ⟨w.heap.size, 0, none⟩ v1).setCell ⟨w.heap.size, 1, none⟩ v2).setCell ⟨w.heap.size, 2, none⟩ v3) := by
  have hlo := own_lo h.1
  refine ⟨?_, (((gx.trans h.2).set _ _ _ (Nat.le_refl _)).set _ _ _ (Nat.le_refl _)).set _ _ _ (Nat.le_refl _)⟩
  have h1 := own_keep1 (w' := ((y.setCell ⟨w.heap.size, 0, none⟩ v1).setCell ⟨w.heap.size, 1, none⟩ v2).setCell ⟨w.heap.size, 2, none⟩ v3) h.1 (by
    rw [heap_set _ _ (show b ≠ w.heap.size by omega), heap_set _ _ (show b ≠ w.heap.size by omega), heap_set _ _ (show b ≠ w.heap.size by omega)])
  refine ⟨h1.1, ?_⟩
  rcases h1.2 with h' | ⟨g', cap', cur, h', hb2, hr⟩
  · exact Or.inl h'
  · exact Or.inr ⟨g', cap', cur, h', by omega, hr⟩
set_option maxHeartbeats 1000000 in
theorem s_top {w : World} {B s : Nat} {v : Value} {L : List Fr} {f : Fr} (h : SK w B s v (L ++ [f])) (hl : L.length ≤ 1000) (n : Nat) (hn : f.sl.length = n) (hs : f.sl.length ≤ 1000) :
    Calls Tryd.prog 20 #[.pointer (some ⟨s, 0, none⟩)] w fun e w' => ∃ b c, e = .returned (.tuple #[agFr f.fn f.pc b n c, .bool true]) ∧ CpTo w f b c w' := by
  obtain ⟨kb, c, rfl, _⟩ := h.ntop hl
  have TP : Hid (∀ x, G w x → Calls Tryd.prog 28 #[.pointer (some ⟨s, 0, none⟩)] x fun e w' => e = .returned (.pointer (some ⟨kb, L.length * 3, none⟩)) ∧ G x w' ∧ w'.cell? ⟨kb, L.length * 3, none⟩ = some (.int .i64 f.fn) ∧ w'.cell? ⟨kb, L.length * 3 + 1, none⟩ = some (.int .i64 f.pc) ∧ w'.cell? ⟨kb, L.length * 3 + 2, none⟩ = some (.slice (some ⟨f.sb, 0, none⟩) n f.sc)) := hide fun x g => by
    obtain ⟨kb', c', e, T⟩ := (h.g g).ntop hl
    cases e
    refine T.mono ?_
    rintro e w' ⟨rfl, k, rfl⟩
    have hg := (sk_drewN (h.g g) k).rk.get (last_get L f)
    rw [hn] at hg
    exact ⟨rfl, G.drewN x k, hg⟩
  have CP : Hid (∀ x, G w x → Calls Tryd.prog 32 #[agFr f.fn f.pc f.sb n f.sc] x fun e w' => ∃ b c, e = .returned (agFr f.fn f.pc b n c) ∧ CpTo x f b c w') := hide fun x g =>
    copyOf_any x f n hn (fun j y hy => (h.g g).rk.slot (last_mem L f) hy) hs
  obtain ⟨q, hq⟩ : ∃ q, q = L.length * 3 := ⟨_, rfl⟩
  rw [← hq] at TP
  clear h hl hs hn hq
  obtain ⟨F, hF⟩ : ∃ F, F = f := ⟨_, rfl⟩
  obtain ⟨fn, pc, sb, sc, sl⟩ := f
  rw [← hF] at CP ⊢
  have e1 : F.fn = fn := by rw [hF]
  have e2 : F.pc = pc := by rw [hF]
  have e3 : F.sb = sb := by rw [hF]
  have e4 : F.sc = sc := by rw [hF]
  rw [e1, e2, e3, e4] at CP
  rw [e1, e2]
  simp only at TP
  clear hF e1 e2 e3 e4
  unfold agFr at CP ⊢
  have G1 : Hid (∀ o, G w (w.alloc o) ∧ w.heap.size + 1 ≤ (w.alloc o).heap.size) := hide fun o => ⟨G.alloc _ _, by rw [World.size_alloc]; omega⟩
  go_enter Tryd.func20, Tryd.ntmps20
  go_wp2_with fail
  refine (unhide TP _ (unhide G1 _).1).mono ?_
  rintro e w1 ⟨rfl, g1, d0, d1, d2⟩
  have GG := hide (show _ ∧ _ ∧ _ from ⟨g1, (unhide G1 _).1.trans g1, Nat.le_trans (unhide G1 _).2 g1.size⟩)
  clear g1 TP
  go_wp2_with fail
  refine (unhide CP _ (unhide GG).2.1).mono ?_
  rintro e w2 ⟨b, c', rfl, H2⟩
  have g2 := (unhide GG).1.trans H2.2
  have r0 := g2.cell (x := ⟨w.heap.size, 0, none⟩) (v := .int .i64 0) (by simp [go_sem])
  have r1 := g2.cell (x := ⟨w.heap.size, 1, none⟩) (v := .int .i64 0) (by simp [go_sem])
  have r2 := g2.cell (x := ⟨w.heap.size, 2, none⟩) (v := .slice none 0 0) (by simp [go_sem])
  have fz : ∀ i, w2.frozen? ⟨w.heap.size, i, none⟩ = false := fun i => (World.frozen?_of_block (a := ⟨w.heap.size, i, none⟩) (g2.block _ (by show w.heap.size < _; rw [World.size_alloc]; omega))).trans (by simp [go_sem])
  have q0 := fz 0
  have q1 := fz 1
  have q2 := fz 2
  have FK := hide (CpTo.top (unhide GG).2.1 (unhide GG).2.2 H2)
  clear g2 H2 GG CP G1 fz d0 d1 d2
  go_wp2_with fail
  refine bodyPost_ret (by simp [results, Tryd.results20, go_sem, r0, r1, r2]; try rfl) rfl ?_
  exact ⟨b, c', rfl, unhide FK _ _ _⟩
set_option maxHeartbeats 1000000 in
theorem s_top_none {w : World} {B s : Nat} {v : Value} (h : SK w B s v []) :
    Calls Tryd.prog 20 #[.pointer (some ⟨s, 0, none⟩)] w fun e w' => e = .returned (.tuple #[.agg #[.int .i64 0, .int .i64 0, .slice none 0 0], .bool false]) ∧ G w w' := by
  have TP : Hid (∀ x, G w x → Calls Tryd.prog 28 #[.pointer (some ⟨s, 0, none⟩)] x fun e w' => e = .returned (.pointer none) ∧ w' = x) := hide fun x g => (h.g g).notop
  clear h
  go_enter Tryd.func20, Tryd.ntmps20
  go_wp2_with fail
  refine (unhide TP _ (G.alloc _ _)).mono ?_
  rintro e w1 ⟨rfl, rfl⟩
  clear TP
  go_wp2_with fail
  refine bodyPost_ret (by simp [results, Tryd.results20, go_sem]; try rfl) rfl ?_
  refine ⟨rfl, ?_⟩
  first | exact G.alloc _ _ | exact (((G.alloc w _).set _ _ _ (Nat.le_refl _)).set _ _ _ (Nat.le_refl _)).set _ _ _ (Nat.le_refl _)
end Go.Proofs.YtnfeommkbocgpaaDoor
