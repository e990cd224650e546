/- CodeShows of gantlinelaw9: for every instruction and int the law answers true; nothing that was there is turned. -/
import Derived.Test.YtfbochlohalimabDoorCodeAwake
import Derived.Test.YtfbochlohalimabDoorCodeOpen
import Derived.Deep.DeepCutAuto
namespace Go.Proofs.YtfbochlohalimabDoor
set_option maxRecDepth 100000
open Go.RowKit Go.Maps Go.ChangeShapes Go.WideShapes Go.ChangeAt Go.Deep

/-- What digits tell. -/
def valD (l : List UInt8) : Nat := l.foldl (fun a d => a * 10 + (d.toNat - 48)) 0
theorem dig_nat (k : Nat) (h : k < 10) : (UInt8.ofNat (48 + k)).toNat = 48 + k := by
  simp
  omega
theorem valD_dec : ∀ (n u : Nat), u ≤ n → valD (Lib.decDigits u) = u ∧ ∀ d ∈ Lib.decDigits u, 48 ≤ d.toNat
  | n, u, h => by
    by_cases h10 : u < 10
    · rw [Lib.decDigits, dif_pos h10]
      refine ⟨?_, fun d hd => ?_⟩
      · unfold valD
        simp only [List.foldl_cons, List.foldl_nil, dig_nat u h10]
        omega
      · simp only [List.mem_singleton] at hd
        rw [hd, dig_nat u h10]
        omega
    · match n, h with
      | 0, h => omega
      | n + 1, h =>
        obtain ⟨k1, k2⟩ := valD_dec n (u / 10) (by omega)
        rw [Lib.decDigits, dif_neg h10]
        have hm : u % 10 < 10 := Nat.mod_lt _ (by decide)
        refine ⟨?_, fun d hd => ?_⟩
        · unfold valD at k1 ⊢
          rw [List.foldl_append, k1]
          simp only [List.foldl_cons, List.foldl_nil, dig_nat _ hm]
          omega
        · rcases List.mem_append.1 hd with hd | hd
          · exact k2 d hd
          · simp only [List.mem_singleton] at hd
            rw [hd, dig_nat _ hm]
            omega
theorem dec_inj {u v : Nat} (h : Lib.decDigits u = Lib.decDigits v) : u = v := by
  rw [← (valD_dec u u (Nat.le_refl _)).1, ← (valD_dec v v (Nat.le_refl _)).1, h]
theorem dec_not (u : Nat) (l : List UInt8) : ¬ Lib.decDigits u = 45 :: l := fun h => by
  have := (valD_dec u u (Nat.le_refl _)).2 45 (by rw [h]; simp)
  revert this
  decide
theorem itoa_inj {a b : Int} (h : Lib.itoa a = Lib.itoa b) : a = b := by
  unfold Lib.itoa at h
  split at h
  · split at h
    · have := dec_inj (List.cons.inj h).2
      omega
    · exact absurd h.symm (dec_not _ _)
  · split at h
    · exact absurd h (dec_not _ _)
    · have := dec_inj h
      omega

theorem nm_rows : ∀ r ∈ rowsP, r.nm ≠ [] := by decide
theorem ops_rows : ∀ k : Fin 45, k.val = 43 ∨ 1 ≤ (rowsP.getD k.val noRw).ops := by decide
theorem nm_cases (op : Int) : (rwOf op = noRw) ∨ ((rwOf op).nm ≠ [] ∧ (op = 43 ∨ 1 ≤ (rwOf op).ops)) := by
  unfold rwOf
  by_cases h0 : 0 ≤ op
  · rw [if_pos h0]
    by_cases h : op.toNat < 45
    · right
      have h1 := ops_rows ⟨op.toNat, h⟩
      refine ⟨nm_rows _ ?_, ?_⟩
      · rw [List.getD_eq_getElem?_getD, List.getElem?_eq_getElem (show op.toNat < rowsP.length from h)]
        exact List.getElem_mem _
      · rcases h1 with h1 | h1
        · left
          have h1 : op.toNat = 43 := h1
          omega
        · exact Or.inr h1
    · left
      rw [List.getD_eq_getElem?_getD, List.getElem?_eq_none (show rowsP.length ≤ op.toNat by show 45 ≤ op.toNat; omega)]
      rfl
  · rw [if_neg h0]
    exact Or.inl rfl
theorem show_eq (i : In) (a : Int) (h : 1 ≤ (rwOf i.op).ops) : showP ⟨i.op, a, i.b, i.c, i.d⟩ = showP i ↔ a = i.a := by
  unfold showP
  simp only
  obtain ⟨n, hn⟩ : ∃ n, (rwOf i.op).ops = n + 1 := ⟨(rwOf i.op).ops - 1, by omega⟩
  rw [hn]
  constructor
  · intro e
    have e1 := List.append_cancel_left e
    unfold opsP at e1
    simp only [List.take_succ_cons, List.flatMap_cons] at e1
    have e2 := List.append_cancel_right e1
    exact itoa_inj (List.cons.inj e2).2
  · intro e
    rw [e]

set_option maxHeartbeats 1000000 in
/-- An Op outside the table. -/
theorem shows_none (s : In) (a : Int) (W : World) (ht : Tab9 W) (hs : oIn s) (hr : rwOf s.op = noRw) :
    Calls Tryd.prog 3 #[.agg #[.int .i64 s.op, .int .i64 s.a, .int .i64 s.b, .int .i64 s.c, .int .i64 s.d], .int .i64 a] W fun e w' => e = .returned (.bool true) ∧ G W w' := by
  have AW := hide (fun x (g : G W x) => awake_any x (ht.g g))
  have SH := fun x (g : G W x) => show_any x s hs (ht.g g)
  have NM := fun x (g : G W x) => name_any x s.op (ht.g g).1
  have e1 : showP s = [] := by unfold showP; rw [hr]; rfl
  rw [e1] at SH
  rw [hr] at NM
  replace SH := hide SH
  replace NM : Hid (∀ x, G W x → Calls Tryd.prog 6 #[.int .i64 s.op] x fun e w' => e = .returned (.string ⟨#[]⟩) ∧ G x w') := hide NM
  clear ht hs hr e1
  go_enter Tryd.func3, Tryd.ntmps3
  go_wp2_with fail
  refine (unhide AW _ ((G.refl W).more _)).mono ?_
  rintro e w1 ⟨rfl, g1⟩
  have c0 := g1.cell (x := ⟨W.heap.size, 0, none⟩) (v := .int .i64 s.op) (by simp [go_sem])
  have c1 := g1.cell (x := ⟨W.heap.size, 1, none⟩) (v := .int .i64 s.a) (by simp [go_sem])
  have c2 := g1.cell (x := ⟨W.heap.size, 2, none⟩) (v := .int .i64 s.b) (by simp [go_sem])
  have c3 := g1.cell (x := ⟨W.heap.size, 3, none⟩) (v := .int .i64 s.c) (by simp [go_sem])
  have c4 := g1.cell (x := ⟨W.heap.size, 4, none⟩) (v := .int .i64 s.d) (by simp [go_sem])
  have G1 := hide (((G.refl W).more _).trans g1)
  clear AW g1
  go_wp2_with fail
  refine (unhide SH w1 (unhide G1)).mono ?_
  rintro e w2 ⟨rfl, g2⟩
  have d0 := g2.cell c0
  have G2 := hide ((unhide G1).trans g2)
  clear SH g2 G1 c0 c1 c2 c3 c4
  go_wp2_with fail
  refine (unhide NM w2 (unhide G2)).mono ?_
  rintro e w3 ⟨rfl, g3⟩
  have G3 := hide ((unhide G2).trans g3)
  clear NM g3 G2 d0
  go_wp2_with fail
  go_ret
  exact ⟨rfl, unhide G3⟩

set_option maxHeartbeats 2000000 in
theorem shows_some (s : In) (a : Int) (W : World) (ht : Tab9 W) (hs : oIn s) (ha : oI a) (hr : (rwOf s.op).nm ≠ []) (ho : s.op = 43 ∨ 1 ≤ (rwOf s.op).ops) :
    Calls Tryd.prog 3 #[.agg #[.int .i64 s.op, .int .i64 s.a, .int .i64 s.b, .int .i64 s.c, .int .i64 s.d], .int .i64 a] W fun e w' => e = .returned (.bool true) ∧ G W w' := by
  have AW := hide (fun x (g : G W x) => awake_any x (ht.g g))
  have SH := hide (fun x (g : G W x) => show_any x s hs (ht.g g))
  have SJ := hide (fun x (g : G W x) => show_any x ⟨s.op, a, s.b, s.c, s.d⟩ ⟨hs.1, ha, hs.2.2.1, hs.2.2.2.1, hs.2.2.2.2⟩ (ht.g g))
  have NM := hide (fun x (g : G W x) => name_any x s.op (ht.g g).1)
  have EQ : Hid (s.op ≠ 43 → (showP ⟨s.op, a, s.b, s.c, s.d⟩ = showP s ↔ a = s.a)) := hide fun h => show_eq s a (by omega)
  have e1 : showP s = (rwOf s.op).nm ++ opsP ([s.a, s.b, s.c, s.d].take (rwOf s.op).ops) := rfl
  have hnl : (rwOf s.op).nm.length ≤ 10 := nm_le _
  have hpl : 0 < (rwOf s.op).nm.length := List.length_pos_iff.2 hr
  have hol : (opsP ([s.a, s.b, s.c, s.d].take (rwOf s.op).ops)).length ≤ 1000 := by
    have h1 := ops_len ([s.a, s.b, s.c, s.d].take (rwOf s.op).ops) (fun v hv => by
      have hm := List.mem_of_mem_take hv
      obtain ⟨o0, o1, o2, o3, o4⟩ := hs
      simp at hm
      rcases hm with rfl | rfl | rfl | rfl
      · exact o1
      · exact o2
      · exact o3
      · exact o4)
    have h2 : ([s.a, s.b, s.c, s.d].take (rwOf s.op).ops).length ≤ 4 := by simp; omega
    omega
  generalize (rwOf s.op).nm = nm at *
  generalize opsP ([s.a, s.b, s.c, s.d].take (rwOf s.op).ops) = R at *
  generalize showP ⟨s.op, a, s.b, s.c, s.d⟩ = J at *
  generalize showP s = Z at *
  obtain ⟨N, hN⟩ : ∃ N : ByteArray, N = ⟨nm.toArray⟩ := ⟨_, rfl⟩
  obtain ⟨S, hS⟩ : ∃ S : ByteArray, S = ⟨Z.toArray⟩ := ⟨_, rfl⟩
  obtain ⟨T, hT⟩ : ∃ T : ByteArray, T = ⟨J.toArray⟩ := ⟨_, rfl⟩
  have nz : N.size = nm.length := by rw [hN]; show nm.toArray.size = _; simp
  have sz : S.size = nm.length + R.length := by rw [hS, e1]; show (nm ++ R).toArray.size = _; simp
  have ex : S.extract 0 N.size = N := by
    apply ByteArray.ext
    rw [ByteArray.data_extract, nz, hS, hN, e1]
    simp
  have hN1 : ¬ N.toList = [] := fun h => by
    rw [ByteArray.toList_eq] at h
    have : N.data.size = 0 := by
      have := congrArg List.length h
      simpa using this
    have h2 : N.size = 0 := this
    omega
  have hN0 : (N.toList == []) = false := beq_eq_false_iff_ne.2 hN1
  have hTS : s.op ≠ 43 → (T.toList == S.toList) = (a == s.a) := fun h => by
    have h3 : (T.toList = S.toList) ↔ a = s.a := by
      rw [← unhide EQ h, hT, hS, ByteArray.toList_mk, ByteArray.toList_mk]
    by_cases e : a = s.a
    · have e2 := h3.2 e
      rw [e2, e]
      simp
    · have e2 : ¬ T.toList = S.toList := fun h => e (h3.1 h)
      rw [beq_eq_false_iff_ne.2 e2, beq_eq_false_iff_ne.2 e]
  rw [← hN] at NM
  rw [← hS] at SH
  rw [← hT] at SJ
  have hNN : (N.toList == N.toList) = true := by simp
  have nz10 : N.size ≤ 10 := by omega
  have szl : N.size ≤ S.size := by omega
  have szb : S.size ≤ 2000 := by omega
  have hlt : ¬ S.size < N.size := by omega
  have hlti : ¬ (S.size : Int) < (N.size : Int) := by omega
  clear ht hs ha hr ho e1 hnl hpl hol hN hS hT nz sz EQ
  go_enter Tryd.func3, Tryd.ntmps3
  go_wp2_with fail
  refine (unhide AW _ ((G.refl W).more _)).mono ?_
  rintro e w1 ⟨rfl, g1⟩
  have c0 := g1.cell (x := ⟨W.heap.size, 0, none⟩) (v := .int .i64 s.op) (by simp [go_sem])
  have c1 := g1.cell (x := ⟨W.heap.size, 1, none⟩) (v := .int .i64 s.a) (by simp [go_sem])
  have c2 := g1.cell (x := ⟨W.heap.size, 2, none⟩) (v := .int .i64 s.b) (by simp [go_sem])
  have c3 := g1.cell (x := ⟨W.heap.size, 3, none⟩) (v := .int .i64 s.c) (by simp [go_sem])
  have c4 := g1.cell (x := ⟨W.heap.size, 4, none⟩) (v := .int .i64 s.d) (by simp [go_sem])
  have G1 := hide (((G.refl W).more _).trans g1)
  clear AW g1
  go_wp2_with fail
  refine (unhide SH w1 (unhide G1)).mono ?_
  rintro e w2 ⟨rfl, g2⟩
  have G2 := hide ((unhide G1).trans g2)
  replace c0 := g2.cell c0
  replace c1 := g2.cell c1
  replace c2 := g2.cell c2
  replace c3 := g2.cell c3
  replace c4 := g2.cell c4
  clear SH g2 G1
  go_wp2_with fail
  refine (unhide NM w2 (unhide G2)).mono ?_
  rintro e w3 ⟨rfl, g3⟩
  have G3 := hide ((unhide G2).trans g3)
  replace c0 := g3.cell c0
  replace c1 := g3.cell c1
  replace c2 := g3.cell c2
  replace c3 := g3.cell c3
  replace c4 := g3.cell c4
  clear NM g3 G2
  obtain ⟨w4, hw4⟩ : ∃ w4, w4 = w3.alloc (.cells #[.int .i64 s.op, .int .i64 a, .int .i64 s.b, .int .i64 s.c, .int .i64 s.d] 23) := ⟨_, rfl⟩
  have g4 : G w3 w4 := by rw [hw4]; exact G.alloc _ _
  have KP : Hid (∀ x, G w4 x → G w4 x ∧ x.cell? ⟨W.heap.size, 0, none⟩ = some (.int .i64 s.op) ∧ x.cell? ⟨W.heap.size, 1, none⟩ = some (.int .i64 s.a) ∧ x.cell? ⟨w3.heap.size, 0, none⟩ = some (.int .i64 s.op) ∧ x.cell? ⟨w3.heap.size, 1, none⟩ = some (.int .i64 a) ∧ x.cell? ⟨w3.heap.size, 2, none⟩ = some (.int .i64 s.b) ∧ x.cell? ⟨w3.heap.size, 3, none⟩ = some (.int .i64 s.c) ∧ x.cell? ⟨w3.heap.size, 4, none⟩ = some (.int .i64 s.d)) := hide fun x gx => ⟨gx, (g4.trans gx).cell c0, (g4.trans gx).cell c1, gx.cell (by rw [hw4]; simp [go_sem]), gx.cell (by rw [hw4]; simp [go_sem]), gx.cell (by rw [hw4]; simp [go_sem]), gx.cell (by rw [hw4]; simp [go_sem]), gx.cell (by rw [hw4]; simp [go_sem])⟩
  have KC : Hid (∀ x x2, G x x2 → (G w4 x ∧ x.cell? ⟨W.heap.size, 0, none⟩ = some (.int .i64 s.op) ∧ x.cell? ⟨W.heap.size, 1, none⟩ = some (.int .i64 s.a) ∧ x.cell? ⟨w3.heap.size, 0, none⟩ = some (.int .i64 s.op) ∧ x.cell? ⟨w3.heap.size, 1, none⟩ = some (.int .i64 a) ∧ x.cell? ⟨w3.heap.size, 2, none⟩ = some (.int .i64 s.b) ∧ x.cell? ⟨w3.heap.size, 3, none⟩ = some (.int .i64 s.c) ∧ x.cell? ⟨w3.heap.size, 4, none⟩ = some (.int .i64 s.d)) → (G w4 x2 ∧ x2.cell? ⟨W.heap.size, 0, none⟩ = some (.int .i64 s.op) ∧ x2.cell? ⟨W.heap.size, 1, none⟩ = some (.int .i64 s.a) ∧ x2.cell? ⟨w3.heap.size, 0, none⟩ = some (.int .i64 s.op) ∧ x2.cell? ⟨w3.heap.size, 1, none⟩ = some (.int .i64 a) ∧ x2.cell? ⟨w3.heap.size, 2, none⟩ = some (.int .i64 s.b) ∧ x2.cell? ⟨w3.heap.size, 3, none⟩ = some (.int .i64 s.c) ∧ x2.cell? ⟨w3.heap.size, 4, none⟩ = some (.int .i64 s.d))) := hide fun x x2 hg hs => unhide KP x2 (hs.1.trans hg)
  have FIN := hide (fun x (gx : G w4 x) => ((unhide G3).trans g4).trans gx)
  have CJ : Hid (∀ x, (G w4 x ∧ x.cell? ⟨W.heap.size, 0, none⟩ = some (.int .i64 s.op) ∧ x.cell? ⟨W.heap.size, 1, none⟩ = some (.int .i64 s.a) ∧ x.cell? ⟨w3.heap.size, 0, none⟩ = some (.int .i64 s.op) ∧ x.cell? ⟨w3.heap.size, 1, none⟩ = some (.int .i64 a) ∧ x.cell? ⟨w3.heap.size, 2, none⟩ = some (.int .i64 s.b) ∧ x.cell? ⟨w3.heap.size, 3, none⟩ = some (.int .i64 s.c) ∧ x.cell? ⟨w3.heap.size, 4, none⟩ = some (.int .i64 s.d)) → Calls Tryd.prog 5 #[.agg #[.int .i64 s.op, .int .i64 a, .int .i64 s.b, .int .i64 s.c, .int .i64 s.d]] x fun e w' => e = .returned (.string T) ∧ G x w') := hide fun x hs => unhide SJ x (unhide FIN x hs.1)
  have KD := hide (unhide KP _ ((G.refl w4).drew))
  clear G3 g4 SJ
  go_upto_region 11 with fail
  rw [← hw4]
  clear hw4 c0 c1 c2 c3 c4
  by_cases h43 : s.op = 43
  · have b43 : (s.op == 43) = true := by rw [h43]; rfl
    clear h43 hTS
    refine wp_region_noPanic ?_
    refine wp_region_held_drew (S := fun x => G w4 x ∧ x.cell? ⟨W.heap.size, 0, none⟩ = some (.int .i64 s.op) ∧ x.cell? ⟨W.heap.size, 1, none⟩ = some (.int .i64 s.a) ∧ x.cell? ⟨w3.heap.size, 0, none⟩ = some (.int .i64 s.op) ∧ x.cell? ⟨w3.heap.size, 1, none⟩ = some (.int .i64 a) ∧ x.cell? ⟨w3.heap.size, 2, none⟩ = some (.int .i64 s.b) ∧ x.cell? ⟨w3.heap.size, 3, none⟩ = some (.int .i64 s.c) ∧ x.cell? ⟨w3.heap.size, 4, none⟩ = some (.int .i64 s.d)) (by kernel_rfl) (unhide KD) (fun hHeld => ?_)
    refine wpAnyH_take (i := 0) (v := .pointer (some ⟨W.heap.size, 0, none⟩)) rfl (by kernel_rfl) (by kernel_rfl) (by kernel_rfl) (fun _ _ _ h => h) (Or.inl ⟨by rfl, fun w hSw => by obtain ⟨t0, t1, t2, t3, t4, t5, t6, t7⟩ := hSw; go_simp⟩) (by assumption) ?_
    try simp only [Act.put, List.getElem_toArray, List.getElem_cons_zero, List.setIfInBounds_toArray, List.set_cons_zero, List.set_cons_succ]
    refine wpAnyH_take (i := 1) (v := .int .i64 s.op) rfl (by kernel_rfl) (by kernel_rfl) (by kernel_rfl) (fun _ _ _ h => h) (Or.inl ⟨by rfl, fun w hSw => by obtain ⟨t0, t1, t2, t3, t4, t5, t6, t7⟩ := hSw; go_simp⟩) (by assumption) ?_
    try simp only [Act.put, List.getElem_toArray, List.getElem_cons_succ, List.getElem_cons_zero, List.setIfInBounds_toArray, List.set_cons_zero, List.set_cons_succ]
    refine wpAnyH_take (i := 2) (v := .bool true) rfl (by kernel_rfl) (by kernel_rfl) (by kernel_rfl) (fun _ _ _ h => h) (Or.inl ⟨by rfl, fun w hSw => by obtain ⟨t0, t1, t2, t3, t4, t5, t6, t7⟩ := hSw; go_simp⟩) (by assumption) ?_
    try simp only [Act.put, List.getElem_toArray, List.getElem_cons_succ, List.getElem_cons_zero, List.setIfInBounds_toArray, List.set_cons_zero, List.set_cons_succ]
    refine wpAnyH_take (i := 3) (v := .bool true) rfl (by kernel_rfl) (by kernel_rfl) (by kernel_rfl) (fun _ _ _ h => h) (Or.inl ⟨by rfl, fun w hSw => by obtain ⟨t0, t1, t2, t3, t4, t5, t6, t7⟩ := hSw; go_simp⟩) (by assumption) ?_
    try simp only [Act.put, List.getElem_toArray, List.getElem_cons_succ, List.getElem_cons_zero, List.setIfInBounds_toArray, List.set_cons_zero, List.set_cons_succ]
    refine wpAnyH_take (i := 4) (v := undef) rfl (by kernel_rfl) (by kernel_rfl) (by kernel_rfl) (fun _ _ _ h => h) (Or.inr ⟨by rfl, rfl⟩) (by assumption) ?_
    try simp only [Act.put, List.getElem_toArray, List.getElem_cons_succ, List.getElem_cons_zero, List.setIfInBounds_toArray, List.set_cons_zero, List.set_cons_succ]
    refine wpAnyH_take (i := 5) (v := undef) rfl (by kernel_rfl) (by kernel_rfl) (by kernel_rfl) (fun _ _ _ h => h) (Or.inr ⟨by rfl, rfl⟩) (by assumption) ?_
    try simp only [Act.put, List.getElem_toArray, List.getElem_cons_succ, List.getElem_cons_zero, List.setIfInBounds_toArray, List.set_cons_zero, List.set_cons_succ]
    refine wpAnyH_take (i := 6) (v := undef) rfl (by kernel_rfl) (by kernel_rfl) (by kernel_rfl) (fun _ _ _ h => h) (Or.inr ⟨by rfl, rfl⟩) (by assumption) ?_
    try simp only [Act.put, List.getElem_toArray, List.getElem_cons_succ, List.getElem_cons_zero, List.setIfInBounds_toArray, List.set_cons_zero, List.set_cons_succ]
    refine wpAnyH_take (i := 7) (v := undef) rfl (by kernel_rfl) (by kernel_rfl) (by kernel_rfl) (fun _ _ _ h => h) (Or.inr ⟨by rfl, rfl⟩) (by assumption) ?_
    try simp only [Act.put, List.getElem_toArray, List.getElem_cons_succ, List.getElem_cons_zero, List.setIfInBounds_toArray, List.set_cons_zero, List.set_cons_succ]
    refine wpAnyH_take (i := 8) (v := undef) rfl (by kernel_rfl) (by kernel_rfl) (by kernel_rfl) (fun _ _ _ h => h) (Or.inr ⟨by rfl, rfl⟩) (by assumption) ?_
    try simp only [Act.put, List.getElem_toArray, List.getElem_cons_succ, List.getElem_cons_zero, List.setIfInBounds_toArray, List.set_cons_zero, List.set_cons_succ]
    refine wpAnyH_take (i := 9) (v := undef) rfl (by kernel_rfl) (by kernel_rfl) (by kernel_rfl) (fun _ _ _ h => h) (Or.inr ⟨by rfl, rfl⟩) (by assumption) ?_
    try simp only [Act.put, List.getElem_toArray, List.getElem_cons_succ, List.getElem_cons_zero, List.setIfInBounds_toArray, List.set_cons_zero, List.set_cons_succ]
    refine wpAnyH_take (i := 10) (v := undef) rfl (by kernel_rfl) (by kernel_rfl) (by kernel_rfl) (fun _ _ _ h => h) (Or.inr ⟨by rfl, rfl⟩) (by assumption) ?_
    try simp only [Act.put, List.getElem_toArray, List.getElem_cons_succ, List.getElem_cons_zero, List.setIfInBounds_toArray, List.set_cons_zero, List.set_cons_succ]
    refine wpAnyH_take (i := 11) (v := undef) rfl (by kernel_rfl) (by kernel_rfl) (by kernel_rfl) (fun _ _ _ h => h) (Or.inr ⟨by rfl, rfl⟩) (by assumption) ?_
    try simp only [Act.put, List.getElem_toArray, List.getElem_cons_succ, List.getElem_cons_zero, List.setIfInBounds_toArray, List.set_cons_zero, List.set_cons_succ]
    refine wpAnyH_take (i := 12) (v := undef) rfl (by kernel_rfl) (by kernel_rfl) (by kernel_rfl) (fun _ _ _ h => h) (Or.inr ⟨by rfl, rfl⟩) (by assumption) ?_
    try simp only [Act.put, List.getElem_toArray, List.getElem_cons_succ, List.getElem_cons_zero, List.setIfInBounds_toArray, List.set_cons_zero, List.set_cons_succ]
    refine wpAnyH_take (i := 13) (v := .bool true) rfl (by kernel_rfl) (by kernel_rfl) (by kernel_rfl) (fun _ _ _ h => h) (Or.inl ⟨by rfl, fun w hSw => by obtain ⟨t0, t1, t2, t3, t4, t5, t6, t7⟩ := hSw; go_simp⟩) (by assumption) ?_
    try simp only [Act.put, List.getElem_toArray, List.getElem_cons_succ, List.getElem_cons_zero, List.setIfInBounds_toArray, List.set_cons_zero, List.set_cons_succ]
    refine wpAnyH_take (i := 14) (v := .bool true) rfl (by kernel_rfl) (by kernel_rfl) (by kernel_rfl) (fun _ _ _ h => h) (Or.inl ⟨by rfl, fun w hSw => by obtain ⟨t0, t1, t2, t3, t4, t5, t6, t7⟩ := hSw; go_simp⟩) (by assumption) ?_
    try simp only [Act.put, List.getElem_toArray, List.getElem_cons_succ, List.getElem_cons_zero, List.setIfInBounds_toArray, List.set_cons_zero, List.set_cons_succ]
    refine wpAnyH_done (by kernel_rfl) (NoPanic.normal ?_) _
    have F2 := hide (unhide FIN _ hHeld.1)
    clear hHeld
    go_wp2_with fail
    go_ret
    exact ⟨rfl, unhide F2⟩
  · have b43 : (s.op == 43) = false := beq_eq_false_iff_ne.2 h43
    have hts := hTS h43
    obtain ⟨q, hq⟩ : ∃ q : Bool, q = (a == s.a) := ⟨_, rfl⟩
    rw [← hq] at hts
    replace hq := hq.symm
    have hqq : (q == q) = true := by simp
    clear h43 hTS
    have K0 := unhide KD
    go_region_held3 (fun x => G w4 x ∧ x.cell? ⟨W.heap.size, 0, none⟩ = some (.int .i64 s.op) ∧ x.cell? ⟨W.heap.size, 1, none⟩ = some (.int .i64 s.a) ∧ x.cell? ⟨w3.heap.size, 0, none⟩ = some (.int .i64 s.op) ∧ x.cell? ⟨w3.heap.size, 1, none⟩ = some (.int .i64 a) ∧ x.cell? ⟨w3.heap.size, 2, none⟩ = some (.int .i64 s.b) ∧ x.cell? ⟨w3.heap.size, 3, none⟩ = some (.int .i64 s.c) ∧ x.cell? ⟨w3.heap.size, 4, none⟩ = some (.int .i64 s.d))
      (first | assumption | exact unhide KD | exact unhide KC _ _ (by assumption) (by assumption))
      ((first
        | (go_at_call 5; refine (unhide CJ _ ?_).mono ?_; assumption; rintro e x2 ⟨rfl, hg2⟩)))
    all_goals
      go_wp2_with fail
      go_ret
      exact ⟨rfl, unhide FIN _ ((G.refl w4).drew.trans hg2)⟩
theorem oI_w {k : Int} (h : (Lit.int .i64 k).wf = true) : oI k := bounds_i64 h
theorem walk_CodeShows (s : In) (a : Int) (W : World) (ht : Tab9 W) (hs : oIn s) (ha : oI a) :
    Calls Tryd.prog 3 #[.agg #[.int .i64 s.op, .int .i64 s.a, .int .i64 s.b, .int .i64 s.c, .int .i64 s.d], .int .i64 a] W fun e w' => e = .returned (.bool true) ∧ G W w' := by
  rcases nm_cases s.op with h | ⟨h1, h2⟩
  · exact shows_none s a W ht hs h
  · exact shows_some s a W ht hs ha h1 h2
section
variable {H : Type} {enc : TypeId × Value → H} {w : World} {base b0 : Nat} {spare : Nat → Bool} {held : Bool} {r : Reach} {v : Value} {d : DataW H} {ps : List MemPlace}
theorem open_instr (hval : Value.okWide Tryd.prog w r b0 23 v) (hd : DataW.Trod enc Tryd.prog w base spare held 23 v d ps) : ∃ s : In, v = .agg #[.int .i64 s.op, .int .i64 s.a, .int .i64 s.b, .int .i64 s.c, .int .i64 s.d] ∧ oIn s := by
  obtain ⟨cs, rfl, hsz⟩ := okWide_struct Tryd.underlying23 hval
  obtain ⟨fuel, h⟩ := hd
  obtain ⟨l⟩ := cs
  obtain ⟨s, hs, ok⟩ := of_instr h
  have hs : l = [.int .i64 s.op, .int .i64 s.a, .int .i64 s.b, .int .i64 s.c, .int .i64 s.d] := hs
  subst hs
  exact ⟨s, rfl, ok⟩
end

set_option maxRecDepth 100000 in
theorem lifted_CodeShows (os : Os) (started : os.Started) (H : Type) (enc : TypeId × Value → H) :
    ReturnsInHanded {} Tryd.checked os 3 .any (fun w args => (Rows.codeShowsSpec.pre enc Tryd.prog Tryd.f3 [] false w args ∧ laidMetH Tryd.prog laid9 w) ∧ sizedMet enc Tryd.prog Tryd.f3 (OpenSpec.ofChange Rows.codeShowsSpec) false w args)
      (Rows.codeShowsSpec.post enc Tryd.prog Tryd.f3 false true false false) := by
  refine returnsInHanded_of_change_and (C := Tryd.checked) (X := fun w _ => laidMetH Tryd.prog laid9 w) (fun _ _ _ hh h => h.of_heap hh) own started (by kernel_rfl) Tryd.func3
    (ChangeSpec.witness_shaped (enc := enc) (C := Tryd.checked) (os := os) (X := fun w _ => laidMetH Tryd.prog laid9 w) false (World.doorLaid Tryd.prog 400 os) #[.agg #[.int .i64 0, .int .i64 0, .int .i64 0, .int .i64 0, .int .i64 0], .int .i64 0] 8 rfl (World.shaped_of_RefB (by kernel_rfl) (by kernel_rfl)) (by kernel_rfl) (by kernel_rfl) (by kernel_rfl) (door_met os _)) ?_
  intro W base args ds gs before hval0 hW _ _ hL _
  have hval : ∀ (j : Nat) t v, Tryd.f3.params[j]? = some t → args[j]? = some v → Value.okWide Tryd.prog W .any base t v := hval0
  have hW' := hW
  obtain ⟨p, q, hA0, hV, rfl, hfz, hnd⟩ := hW
  have hA : DataW.TrodAll enc Tryd.prog W 0 (fun _ => true) true Tryd.f3.params.toList args.toList ds p := hA0
  rw [Tryd.params3] at hA hval
  obtain ⟨v0, vs0, d0, ds0, p0, q0, hargs, rfl, rfl, h0, r0⟩ := trodAll_cons hA
  obtain ⟨v1, vs1, d1, ds1, p1, q1, rfl, rfl, rfl, h1, r1⟩ := trodAll_cons r0
  obtain ⟨rfl, rfl, rfl⟩ := trodAll_nil r1
  obtain rfl : args = #[v0, v1] := by cases args; simp_all
  obtain ⟨rfl, rfl⟩ := trodVars_none hV
  have k0 := h0
  have lt0 : ∀ x ∈ p0, x.block < W.heap.size := by obtain ⟨m, hm⟩ := k0; exact DataW.trod_lt m _ _ _ hm
  obtain ⟨s0, rfl, w0⟩ := open_instr (hval 0 23 v0 rfl rfl) h0
  have k1 := h1
  have lt1 : ∀ x ∈ p1, x.block < W.heap.size := by obtain ⟨m, hm⟩ := k1; exact DataW.trod_lt m _ _ _ hm
  obtain ⟨a1, rfl, rfl, rfl, w1⟩ := open_int Tryd.underlying3 (hval 1 3 v1 rfl rfl) h1
  clear hA0 hval0
  refine (walk_CodeShows s0 a1 W (tab_of_laid hL) w0 (oI_wf w1)).mono fun e W' ⟨he, hg⟩ => ?_
  subst he
  exact ⟨_, rfl, _, _, _, [], _, [], hW', trodAll_mk1 (shut_bool Tryd.underlying4 _), (trodAll_cons_mk (Below.trod laidOut (by kernel_rfl) (of_decide_eq_true (by kernel_rfl)) k0 hg lt0) (trodAll_cons_mk (Below.trod laidOut (by kernel_rfl) (of_decide_eq_true (by kernel_rfl)) k1 hg lt1) trodAll_mk0)), rfl, hg.frame _, fun h => by cases h⟩

theorem row_CodeShows : Rows.CodeShowsSaid :=
  OpenClaim.holds_of_wide 3 Tryd.f3 rfl rfl rfl rfl rfl rfl rfl ⟨rfl, rfl, rfl, rfl, rfl⟩ rfl rfl rfl rfl rfl (by kernel_rfl) Tryd.func3 (by kernel_rfl)
    (of_decide_eq_true (by kernel_rfl)) (by unfold Func.isWrapper; first | (rw [if_pos (by decide +kernel)]; kernel_rfl) | (rw [if_neg (by decide +kernel)]; exact ⟨rfl, rfl⟩))
    (fun os started H enc _ => lifted_CodeShows os started H enc)

/-- THE STATEMENT. -/
theorem card_CodeShows : Rows.CodeShowsCardSaid :=
  Claim7.holds_tied_plain_at .later [] [.data, .data, .data, .data] true (true, "4fbbe64ddc8a6c030af697cb7a226dba16bf67f7a39175cf573bca34549f35f2") false
    row_CodeShows (fun _ h => by cases h) (by kernel_rfl) (fun _ h => by cases h) codeShows_row_tie rfl ⟨rfl, rfl⟩ (by kernel_rfl) rfl
    (fun f fn hf hfn => by
      obtain rfl : f = 3 := Option.some.inj ((show Tryd.prog.funcNamed "gantline/gantlinelaw9.CodeShows" = some 3 by kernel_rfl).symm.trans hf) |>.symm
      obtain rfl : fn = Tryd.f3 := (Option.some.inj (Tryd.func3.symm.trans hfn)).symm
      exact ⟨by kernel_rfl, fun j t ht => by
        rw [Tryd.params3] at ht
        have hm : t ∈ [23, 3] := by simpa using Array.mem_of_getElem? ht
        have hall : ([23, 3].all fun u => !Tryd.prog.wantsStandIn u) = true := by kernel_rfl
        exact (show Tryd.prog.wantsStandIn t = false by simpa using List.all_eq_true.1 hall t hm)⟩)
    (by kernel_rfl)
#print axioms card_CodeShows
end Go.Proofs.YtfbochlohalimabDoor
