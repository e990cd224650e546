/- container/heap over the graph's queue: Push and Pop. -/
import Derived.Test.YtiangegoglfpeaaDoorFrHeap
namespace Go.Proofs.YtiangegoglfpeaaDoor
set_option maxRecDepth 100000
open Go.RowKit Go.Maps Go.ChangeShapes Go.WideShapes Go.ChangeAt Go.Deep

theorem step_app2 {ops : Array Oper} {o : Oper} {a : Act} {w : World} {K : Act → World → Prop} {Q : Exit → Act → World → Prop} {E : Prop} (hg : o.guard = none) (s x : Operand) (t : TypeId) (hop : o.op = Op.call { callee := Callee.builtin Builtin.append, args := #[s, x], argTypes := #[t, t] }) (vs vx : Value) (hs : a.eval s = vs) (hx : a.eval x = vx) (v' : Value) (w' : World) (hrun : (Builtin.append_ #[t, t] o.type #[vs, vx]).run Tryd.prog w = .ok v' w') (hK : K (a.put o.dst v') w') :
    if Region.wanted o (yielded ops a.tmps) = true then Oper.wp Tryd.prog o a w K Q else E := by
  have hw : Region.wanted o (yielded ops a.tmps) = true := by simp [Region.wanted, hg]
  rw [if_pos hw]
  unfold Oper.wp
  simp [execOp, hop, resolve, invoke, builtin, hs, hx, hrun, Result.andThen]
  exact hK
/-- One more behind the queue's row. -/
theorem q_app {w y : World} {B : Nat} {v : Value} {l : List Int} (h : OwnL w B v l) (hB : B ≤ w.heap.size) (hn : l.length < 10000000) (a : Int) (g : G (w.alloc (.cells #[.int .i64 a] 3)) y) :
    ∃ v' w', (Builtin.append_ #[101, 101] 101 #[v, .slice (some ⟨w.heap.size, 0, none⟩) 1 1]).run Tryd.prog y = .ok v' w' ∧ OwnL w' B v' (l ++ [a]) ∧ y.grownBy w' v.ownBlock ∧ (v'.ownBlock = v.ownBlock ∨ v'.ownBlock = some y.heap.size) := by
  obtain ⟨i, hi, hz, hs, hb⟩ := info_parts info_int
  have gw : G w y := (G.alloc w _).trans g
  have h2 : OwnL y B v l := own_kept h (fun b _ hb => gw.block b hb)
  obtain ⟨v', w', hrun, r1, r2, _, r4⟩ := run_append_own_at (P := Tryd.prog) y B 101 101 3 i _ 1 8 Tryd.underlying101 hi hz hs hb rfl (by decide) v l.length _ h2 ⟨w.heap.size, 0, none⟩ 1 1 [.int .i64 a] rfl (fun j u hj => by
      rw [Addr.add_lit]
      match j, hj with
      | 0, hj =>
        simp at hj
        subst hj
        exact g.cell (by rw [cell_of_row _ _ _ _ _ _ (heap_alloc_new w _)]; rfl)
      | j + 1, hj => simp at hj) (fun u hu => by simp at hu; subst hu; rfl) (by unfold maxLen; omega) (by omega) (Nat.le_trans hB gw.size)
  refine ⟨v', w', hrun, ?_, r2, r4⟩
  show w'.ownsRow B 3 1 v' (l ++ [a]).length ((l ++ [a]).map (Value.int .i64))
  rw [List.length_append, List.map_append]
  exact r1
/-- What a call may have turned: the queue's cell, its row; new memory. -/
abbrev QD (gB : Nat) (qv : Value) : Nat → Prop := fun k => k = gB ∨ qv.ownBlock = some k
theorem grown_trd {y w' : World} {q : Option Nat} (h : y.grownBy w' q) : TrD y w' (fun k => q = some k) := ⟨h.os, h.tape, h.output, h.size, fun k hk hne => h.block k hk (fun e => hne e.symm)⟩
theorem ta_int (x : Int) (w : World) : (Instr.typeAssert (.iface 3 (.int .i64 x)) 20 3 false).run Tryd.prog w = .ok (.int .i64 x) w := by kernel_rfl
set_option maxHeartbeats 1000000 in
theorem qpush_any {C : List Value} {w : World} {gB B : Nat} {qv : Value} {l : List Int} (h : QAt C w gB B qv l) (hB : B ≤ w.heap.size) (hn : l.length < 10000000) (x : Int) :
    Calls Tryd.prog 121 #[.pointer (some ⟨gB, 18, none⟩), .iface 3 (.int .i64 x)] w fun e w' => e = .returned (.tuple #[]) ∧ ∃ qv', QAt C w' gB B qv' (l ++ [x]) ∧ TrD w w' (QD gB qv) ∧ (qv'.ownBlock = qv.ownBlock ∨ ∃ b, qv'.ownBlock = some b ∧ w.heap.size ≤ b) := by
  have c := h.c
  have f := h.f
  have hgb := World.block_lt_of_cell? w _ h.c
  have hne : ¬ qv.ownBlock = some gB := fun e => by have := own_blk h.own gB e; have := h.lt; omega
  have AP : Hid (∀ y, G (w.alloc (.cells #[.int .i64 x] 3)) y → ∃ v' w', (Builtin.append_ #[101, 101] 101 #[qv, .slice (some ⟨w.heap.size, 0, none⟩) 1 1]).run Tryd.prog y = .ok v' w' ∧ (∃ g' n' c', v' = .slice (some ⟨g', 0, none⟩) n' c') ∧ w'.cell? ⟨gB, 18, none⟩ = some qv ∧ w'.frozen? ⟨gB, 18, none⟩ = false ∧ (∀ z, G (w'.setCell ⟨gB, 18, none⟩ v') z → ∃ qv', QAt C z gB B qv' (l ++ [x]) ∧ TrD w z (QD gB qv) ∧ (qv'.ownBlock = qv.ownBlock ∨ ∃ b, qv'.ownBlock = some b ∧ w.heap.size ≤ b))) := hide fun y g => by
    obtain ⟨v', w', hrun, ho, hg, ha⟩ := q_app h.own hB hn x g
    have gw : G w y := (G.alloc w _).trans g
    have tr := grown_trd hg
    have hy := h.g gw
    have e1 := tr.block gB (Nat.lt_of_lt_of_le hgb gw.size) hne
    have c1 : w'.cell? ⟨gB, 18, none⟩ = some qv := (World.cell?_of_block (a := ⟨gB, 18, none⟩) e1).trans hy.c
    have f1 : w'.frozen? ⟨gB, 18, none⟩ = false := by rw [fro_of_block (x := ⟨gB, 18, none⟩) e1]; exact hy.f
    obtain ⟨g9, c9, e9, _⟩ := ho.open (by simp)
    refine ⟨v', w', hrun, ⟨_, _, _, e9⟩, c1, f1, fun z gz => ⟨v', ?_, ?_, ?_⟩⟩
    · have : QAt C (w'.setCell ⟨gB, 18, none⟩ v') gB B v' (l ++ [x]) := ⟨cell_same _ c1, by rw [World.frozen?_setCell]; exact f1, own_kept ho (fun b hb _ => heap_set _ _ (by show b ≠ gB; have := h.lt; omega)), h.lt, fun j v hv => by
        have hj : j < C.length := (List.getElem?_eq_some_iff.1 hv).1
        have := h.cl
        rw [cell_other _ (Or.inr (by omega))]
        exact (World.cell?_of_block (a := ⟨gB, 0 + j, none⟩) e1).trans (hy.s j v hv), h.cl⟩
      exact this.g gz
    · have t1 : TrD w w' (QD gB qv) := (TrD.of_G _ gw).trans (tr.mono fun k _ hk => Or.inr hk)
      exact (t1.set gB 18 _ (Or.inl (Or.inl rfl))).trans (TrD.of_G _ gz)
    · rcases ha with ha | ha
      · exact Or.inl ha
      · exact Or.inr ⟨_, ha, gw.size⟩
  have ta := ta_int x
  have ca : (w.alloc (.cells #[.int .i64 x] 3)).cell? ⟨gB, 18, none⟩ = some qv := (G.alloc w _).cell c
  clear h hn
  replace hgb := hide hgb
  go_enter Tryd.func121, Tryd.ntmps121
  go_wp2_with fail
  obtain ⟨v', w2, hrun, ⟨g9, n9, c9, rfl⟩, c2, f2, HF⟩ := unhide AP ((w.alloc (.cells #[.int .i64 x] 3)).drew) (G.refl _).drew
  replace HF := hide HF
  clear AP
  go_region_law (refine step_app2 rfl (.tmp 8) (.tmp 11) 101 rfl _ _ rfl rfl _ _ hrun ?_)
  all_goals
    go_wp2_with fail
    go_end0
    first | exact ⟨rfl, unhide HF _ (G.refl _)⟩ | exact ⟨rfl, unhide HF _ (G.refl _).drew⟩
theorem own_cut {w : World} {B : Nat} {v : Value} {l : List Int} (h : OwnL w B v l) (hl : l ≠ []) : ∃ g cap, v = .slice (some ⟨g, 0, none⟩) l.length cap ∧ l.length ≤ cap ∧ cap ≤ maxLen ∧ w.cell? ⟨g, l.length - 1, none⟩ = some (.int .i64 (l.getD (l.length - 1) 0)) ∧ OwnL w B (.slice (some ⟨g, 0, none⟩) (l.length - 1) cap) (l.take (l.length - 1)) := by
  have hp : 0 < l.length := List.length_pos_iff.2 hl
  rcases h.2 with ⟨rfl, e2⟩ | ⟨g, cap, cur, rfl, h2, h3, h4, h5, h6, h7⟩
  · exact absurd (List.eq_nil_of_length_eq_zero e2) hl
  · refine ⟨g, cap, rfl, h4, h5, ?_, ?_⟩
    · have h8 : (l.map (Value.int .i64))[l.length - 1]? = some (.int .i64 (l.getD (l.length - 1) 0)) := by
        rw [List.getElem?_map, getD_lt (show l.length - 1 < l.length by omega)]; rfl
      rw [← h7, List.getElem?_take] at h8
      split at h8
      · rw [cell_of_row _ _ _ _ _ _ h3]
        simpa using h8
      · cases h8
    · have hlen : (l.take (l.length - 1)).length = l.length - 1 := by rw [List.length_take]; omega
      show w.ownsRow B 3 1 _ (l.take (l.length - 1)).length ((l.take (l.length - 1)).map (Value.int .i64))
      rw [hlen]
      refine ⟨by simp, Or.inr ⟨g, cap, cur, rfl, h2, h3, by omega, h5, h6, ?_⟩⟩
      have := congrArg (List.take (l.length - 1)) h7
      rw [List.take_take] at this
      rw [List.map_take, ← this]
      rw [Nat.mul_one, Nat.mul_one, Nat.min_eq_left (Nat.sub_le _ _)]
set_option maxHeartbeats 1000000 in
theorem qpop_any {C : List Value} {w : World} {gB B : Nat} {qv : Value} {l : List Int} (h : QAt C w gB B qv l) (hl : l ≠ []) (hn : l.length ≤ 10000000) :
    Calls Tryd.prog 120 #[.pointer (some ⟨gB, 18, none⟩)] w fun e w' => e = .returned (.iface 3 (.int .i64 (l.getD (l.length - 1) 0))) ∧ ∃ qv', QAt C w' gB B qv' (l.take (l.length - 1)) ∧ TrD w w' (· = gB) ∧ qv'.ownBlock = qv.ownBlock := by
  have c := h.c
  have f := h.f
  have hp : 0 < l.length := List.length_pos_iff.2 hl
  obtain ⟨g, cap, rfl, h1, h2, c1, ho⟩ := own_cut h.own hl
  have K : Hid (∀ z, G (w.setCell ⟨gB, 18, none⟩ (.slice (some ⟨g, 0, none⟩) (l.length - 1) cap)) z → ∃ qv', QAt C z gB B qv' (l.take (l.length - 1)) ∧ TrD w z (· = gB) ∧ qv'.ownBlock = (Value.slice (some ⟨g, 0, none⟩) l.length cap).ownBlock) := hide fun z gz => by
    refine ⟨.slice (some ⟨g, 0, none⟩) (l.length - 1) cap, ?_, ((TrD.refl w (· = gB)).set gB 18 _ (Or.inl rfl)).trans (TrD.of_G _ gz), rfl⟩
    have : QAt C (w.setCell ⟨gB, 18, none⟩ (.slice (some ⟨g, 0, none⟩) (l.length - 1) cap)) gB B (.slice (some ⟨g, 0, none⟩) (l.length - 1) cap) (l.take (l.length - 1)) := ⟨cell_same _ c, by rw [World.frozen?_setCell]; exact f, own_kept ho (fun b hb _ => heap_set _ _ (by show b ≠ gB; have := h.lt; omega)), h.lt, fun j v hv => by
      have hj : j < C.length := (List.getElem?_eq_some_iff.1 hv).1
      have := h.cl
      rw [cell_other _ (Or.inr (by omega))]
      exact h.s j v hv, h.cl⟩
    exact this.g gz
  generalize l.getD (l.length - 1) 0 = x at c1 ⊢
  obtain ⟨n, hnl⟩ : ∃ n, l.length = n + 1 := ⟨l.length - 1, by omega⟩
  rw [hnl] at c1 K c h1 hn
  rw [Nat.add_sub_cancel] at c1 K
  rw [hnl]
  have hw : wrap64 ((n : Int) + 1 - 1) = (n : Int) := by unfold wrap64; omega
  have e1 : ((n + 1 : Nat) : Int) - 1 = (n : Int) := by omega
  have hcc : n ≤ cap := by omega
  have hnI : (n : Int) ≤ (cap : Int) := by omega
  clear h ho hl hp hnl
  go_enter Tryd.func120, Tryd.ntmps120
  go_wp2_with fail
  go_ret
  exact ⟨rfl, unhide K _ (G.refl _)⟩
theorem TrD.weak {w w' : World} {D D' : Nat → Prop} (h : TrD w w' D) (hd : ∀ k, D k → D' k) : TrD w w' D' := h.mono fun k _ hk => hd k hk
set_option maxHeartbeats 1000000 in
theorem hpush_any {C : List Value} {w : World} {gB B : Nat} {qv : Value} {l : List Int} (h : QAt C w gB B qv l) (hB : B ≤ w.heap.size) (hn : l.length < 10000000) (x : Int) :
    Calls Tryd.prog 49 #[hpV gB, .iface 3 (.int .i64 x)] w fun e w' => e = .returned (.tuple #[]) ∧ ∃ qv', QAt C w' gB B qv' (pshL l x) ∧ TrD w w' (QD gB qv) ∧ (qv'.ownBlock = qv.ownBlock ∨ ∃ b, qv'.ownBlock = some b ∧ w.heap.size ≤ b) := by
  have mp := m_push w gB
  have C1 := hide (qpush_any h hB hn x)
  have C2 : Hid (∀ w1 qv1, QAt C w1 gB B qv1 (l ++ [x]) → Calls Tryd.prog 60 #[hpV gB, .int .i64 (l.length : Int)] w1 fun e w' => e = .returned (.tuple #[]) ∧ QAt C w' gB B qv1 (pshL l x) ∧ TrD w1 w' (fun k => qv1.ownBlock = some k)) := hide fun w1 qv1 q1 => up_any q1 l.length (l.length + 1) (by simp) (by omega) (by simp; omega)
  have OP : Hid (∀ w1 qv1, QAt C w1 gB B qv1 (l ++ [x]) → ∃ ao c, qv1 = .slice ao (l.length + 1) c) := hide fun w1 qv1 q1 => by
    obtain ⟨g, cap, e, _⟩ := q1.own.open (by simp)
    exact ⟨some ⟨g, 0, none⟩, cap, by rw [e]; simp⟩
  have FI : Hid (∀ (w1 w2 : World) (qv1 : Value), TrD w w1 (QD gB qv) → (qv1.ownBlock = qv.ownBlock ∨ ∃ b, qv1.ownBlock = some b ∧ w.heap.size ≤ b) → TrD w1 w2 (fun k => qv1.ownBlock = some k) → TrD w w2 (QD gB qv)) := hide fun w1 w2 qv1 t1 ha t2 => by
    refine ⟨t2.os.trans t1.os, t2.tape.trans t1.tape, t2.output.trans t1.output, Nat.le_trans t1.size t2.size, fun k hk hd => (t2.block k (Nat.lt_of_lt_of_le hk t1.size) fun e => ?_).trans (t1.block k hk hd)⟩
    rcases ha with ha | ⟨b, hb, hlt⟩
    · exact hd (Or.inr (ha ▸ e))
    · rw [hb] at e
      have : b = k := Option.some.inj e
      omega
  have hll : Hid (l.length < 10000000) := hide hn
  have hw : wrap64 ((l.length : Int) + 1 - 1) = (l.length : Int) := by unfold wrap64; omega
  have hw9 : wrap64 (l.length : Int) = (l.length : Int) := by unfold wrap64; omega
  generalize l.length = n at C2 OP hw hw9
  clear h hB hn hll
  go_enter Tryd.func49, Tryd.ntmps49
  go_wp2_with fail
  refine (unhide C1).mono ?_
  rintro e w1 ⟨rfl, qv1, q1, t1, ha⟩
  obtain ⟨ao, c, rfl⟩ := unhide OP w1 qv1 q1
  have cc := q1.c
  have ml := m_len w1 gB _ cc
  have CU := hide (unhide C2 w1 _ q1)
  replace q1 := hide q1
  replace t1 := hide t1
  replace ha := hide ha
  clear C1 C2 OP mp
  go_wp2_with fail
  refine (len_any w1 ao (n + 1) c).mono ?_
  rintro e w2 ⟨rfl, hw2⟩
  subst hw2
  go_wp2_with fail
  refine (unhide CU).mono ?_
  rintro e w3 ⟨rfl, q3, t3⟩
  have K := hide (unhide FI _ w3 _ (unhide t1) (unhide ha) t3)
  replace q3 := hide q3
  replace t3 := hide t3
  clear CU ml cc q1
  go_wp2_with fail
  go_end0
  exact ⟨rfl, _, unhide q3, unhide K, unhide ha⟩
set_option maxHeartbeats 1000000 in
theorem hpop_any {C : List Value} {w : World} {gB B : Nat} {qv : Value} {l : List Int} (h : QAt C w gB B qv l) (hl : l ≠ []) (hn : l.length ≤ 10000000) :
    Calls Tryd.prog 36 #[hpV gB] w fun e w' => e = .returned (.iface 3 (.int .i64 ((popL l).getD (l.length - 1) 0))) ∧ ∃ qv', QAt C w' gB B qv' ((popL l).take (l.length - 1)) ∧ TrD w w' (QD gB qv) ∧ qv'.ownBlock = qv.ownBlock := by
  have hp : 0 < l.length := List.length_pos_iff.2 hl
  obtain ⟨g, cap, rfl, hcap, hBg, _, _⟩ := h.own.open hl
  have cc := h.c
  have ml := m_len w gB _ cc
  have ms := m_swap w gB _ cc
  have mp := fun x => m_pop x gB
  have C1 := hide (swap_any h.own 0 (l.length - 1) hp (by omega))
  have C2 : Hid (∀ w1, OwnL w1 B (.slice (some ⟨g, 0, none⟩) l.length cap) (swpL l 0 (l.length - 1)) ∧ TrD w w1 (fun k => (Value.slice (some ⟨g, 0, none⟩) l.length cap).ownBlock = some k) → QAt C w1 gB B (.slice (some ⟨g, 0, none⟩) l.length cap) (swpL l 0 (l.length - 1)) ∧ Calls Tryd.prog 50 #[hpV gB, .int .i64 ((0 : Nat) : Int), .int .i64 ((l.length - 1 : Nat) : Int)] w1 fun e w' => (∃ v, e = .returned v) ∧ QAt C w' gB B (.slice (some ⟨g, 0, none⟩) l.length cap) (popL l) ∧ TrD w1 w' (fun k => (Value.slice (some ⟨g, 0, none⟩) l.length cap).ownBlock = some k)) := hide fun w1 q => by
    have qa := h.tr q.1 q.2
    exact ⟨qa, down_any qa 0 (l.length - 1) (l.length + 1) (by rw [swp_len]; exact hp) (by rw [swp_len]; omega) (by omega) (by rw [swp_len]; exact hn)⟩
  have C3 : Hid (∀ w2, QAt C w2 gB B (.slice (some ⟨g, 0, none⟩) l.length cap) (popL l) → Calls Tryd.prog 120 #[.pointer (some ⟨gB, 18, none⟩)] w2 fun e w' => e = .returned (.iface 3 (.int .i64 ((popL l).getD (l.length - 1) 0))) ∧ ∃ qv', QAt C w' gB B qv' ((popL l).take (l.length - 1)) ∧ TrD w2 w' (· = gB) ∧ qv'.ownBlock = (Value.slice (some ⟨g, 0, none⟩) l.length cap).ownBlock) := hide fun w2 q2 => by
    have := qpop_any q2 (fun e => absurd (List.eq_nil_of_length_eq_zero (by rw [← pop_len, e]; rfl)) hl) (by rw [pop_len]; exact hn)
    rw [pop_len] at this
    exact this
  generalize (popL l).getD (l.length - 1) 0 = X at C3 ⊢
  generalize (popL l).take (l.length - 1) = T at C3 ⊢
  have hw : wrap64 ((l.length : Int) - 1) = ((l.length - 1 : Nat) : Int) := by unfold wrap64; omega
  generalize l.length - 1 = n1 at C1 C2 hw
  clear h hl hn hp hcap hBg
  go_enter Tryd.func36, Tryd.ntmps36
  go_wp2_with fail
  refine (len_any w _ _ _).mono ?_
  rintro e w0 ⟨rfl, hw0⟩
  subst hw0
  go_wp2_with fail
  refine (unhide C1).mono ?_
  rintro e w1 ⟨rfl, o1⟩
  obtain ⟨qa, CD⟩ := unhide C2 w1 o1
  replace CD := hide CD
  have t1 := hide o1.2
  clear C1 C2 qa o1 ml ms cc
  go_wp2_with fail
  refine (unhide CD).mono ?_
  rintro e w2 ⟨⟨v, rfl⟩, q2, t2⟩
  have C4 := hide (unhide C3 w2 q2)
  replace q2 := hide q2
  replace t2 := hide t2
  have mp2 := mp w2
  clear CD C3
  go_wp2_with fail
  refine (unhide C4).mono ?_
  rintro e w3 ⟨rfl, qv3, q3, t3, e3⟩
  have K : Hid (TrD w0 w3 (QD gB (.slice (some ⟨g, 0, none⟩) l.length cap))) := hide ((((unhide t1).trans (unhide t2)).weak fun k hk => Or.inr hk).trans (t3.weak fun k hk => Or.inl hk))
  replace q3 := hide q3
  replace t3 := hide t3
  replace e3 := hide e3
  clear C4
  go_wp2_with fail
  go_ret
  exact ⟨rfl, _, unhide q3, unhide K, unhide e3⟩
end Go.Proofs.YtiangegoglfpeaaDoor
