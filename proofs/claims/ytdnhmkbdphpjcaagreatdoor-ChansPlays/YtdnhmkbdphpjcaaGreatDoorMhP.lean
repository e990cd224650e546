/- Here, one behind the other: CpPlay. -/
import Derived.Test.YtdnhmkbdphpjcaaGreatDoorMhX
/- ChansPlays of package gantlinelaw15 answers true. -/
namespace Go.Proofs.YtdnhmkbdphpjcaaGreatDoor
set_option maxRecDepth 100000
open Go.ChangeShapes Go.WideShapes Go.ChangeAt Go.RowKit Go.Maps Go.Deep

theorem cp_idx {N i : Nat} (h : i < N) (h8 : N ≤ 8) : ∃ i1 : Int, wrap64 ((i : Int) + 1) = i1 ∧ i1 = ((i + 1 : Nat) : Int) ∧ N - i1.toNat < N - ((i : Int)).toNat := by
  refine ⟨(i : Int) + 1, ?_, by omega, by omega⟩
  unfold wrap64; omega
theorem i64_and65535 (n : Int) : bits .and .i64 n 65535 = n % 65536 := by
  have h127 : (BitVec.ofInt 64 65535).toNat = 2 ^ 16 - 1 := by decide
  have key : (BitVec.ofInt 64 n &&& BitVec.ofInt 64 65535).toNat = (n % ((2 ^ 64 : Nat) : Int)).toNat % 2 ^ 16 := by
    rw [BitVec.toNat_and, BitVec.toNat_ofInt, h127, Nat.and_two_pow_sub_one_eq_mod]
  show IntKind.i64.wrap ((BitVec.ofInt 64 n &&& BitVec.ofInt 64 65535).toNat : Nat) = n % 65536
  rw [key, IntKind.wrap_i64]
  omega
theorem cp_key {N : Nat} (h : 1 ≤ N) (K : Int) : ∃ (u : Int) (k : Nat), bits .and .i64 K 65535 = u ∧ Int.tmod u (N : Int) = (k : Int) ∧ k < N := by
  obtain ⟨m, hm⟩ : ∃ m : Nat, K % 65536 = m := ⟨(K % 65536).toNat, by omega⟩
  refine ⟨(m : Int), m % N, (i64_and65535 K).trans hm, tmod_nat m N, Nat.mod_lt _ (by omega)⟩
theorem cp_jdx {M j : Nat} (h : j < M) (h8 : M ≤ 150) : ∃ i1 : Int, wrap64 ((j : Int) + 1) = i1 ∧ i1 = ((j + 1 : Nat) : Int) ∧ M - i1.toNat < M - ((j : Int)).toNat := by
  refine ⟨(j : Int) + 1, ?_, by omega, by omega⟩
  unfold wrap64; omega
theorem nils_succ (i : Nat) : nils (i + 1) = nils i ++ [.slice none 0 0] := List.replicate_succ'
theorem ivs_app (l : List Int) (v : Int) : ivs (l ++ [v]) = ivs l ++ [.int .i64 v] := by unfold ivs; rw [List.map_append]; rfl
theorem ivs_len (l : List Int) : (ivs l).length = l.length := List.length_map _
theorem nils_len (i : Nat) : (nils i).length = i := List.length_replicate
/-- What came in: numbers at rb. -/
def RsAt (w : World) (rb ro : Nat) (rs : List Int) : Prop := ∀ (i : Nat) (r : Int), rs[i]? = some r → w.cell? ⟨rb, ro + i, none⟩ = some (.int .i64 r)
theorem step_app {ops : Array Oper} {o : Oper} {a : Act} {w : World} {K : Act → World → Prop} {Q : Exit → Act → World → Prop} {E : Prop} (hg : o.guard = none) (s x : Operand) (t : TypeId) (hop : o.op = Op.call { callee := Callee.builtin Builtin.append, args := #[s, x], argTypes := #[t, t] }) (vs vx : Value) (hs : a.eval s = vs) (hx : a.eval x = vx) (v' : Value) (w' : World)
    (hrun : (Builtin.append_ #[t, t] o.type #[vs, vx]).run Tryz.prog w = .ok v' w') (hK : K (a.put o.dst v') w') : if Region.wanted o (yielded ops a.tmps) = true then Oper.wp Tryz.prog o a w K Q else E := by
  have hw : Region.wanted o (yielded ops a.tmps) = true := by simp [Region.wanted, hg]
  rw [if_pos hw]
  unfold Oper.wp
  simp [execOp, hop, resolve, invoke, builtin, hs, hx, hrun, Result.andThen]
  exact hK
set_option maxHeartbeats 40000000 in
set_option maxRecDepth 100000 in
theorem plays15 (w : World) (ht : Tab w) (rb ro N rc : Nat) (rs : List Int) (hN : rs.length = N) (hN1 : 1 ≤ N) (hN8 : N ≤ 8) (hR : RsAt w rb ro rs) (ao : Option Addr) (M lc : Nat) (acts : List Ac) (HA : IsActs w ao M acts) (hM : M ≤ 150) (CA : Hid (Calls Tryz.prog 8 #[] w fun e w' => e = .returned (.bool true) ∧ G w w')) :
    Calls Tryz.prog 4 #[.slice (some ⟨rb, ro, none⟩) N rc, .slice ao M lc] w fun e w' => e = .returned (.bool true) ∧ G w w' := by
  replace ht := hide ht
  have d8 : decide ((8 : Int) < (N : Int)) = false := by simp; omega
  have d8' : decide (8 < N) = false := by simp; omega
  have d0 : ((N : Int) == 0) = false := by simp; omega
  have d0' : (N == 0) = false := by simp; omega
  have d15 : decide ((150 : Int) < (M : Int)) = false := by simp; omega
  have d15' : decide (150 < M) = false := by simp; omega
  have hmk := mk_bools N (by omega)
  have HC : Hid (∀ (w : World) b, w.heap[b]? = some (.cells (madeCells #[.bool false] (N * 1)) 4 (0, 0)) → (∀ s, s < rs.length → w.cell? ⟨b, s, none⟩ = some (.bool false)) ∧ ∀ i, w.frozen? ⟨b, i, none⟩ = false) := hide (by rw [hN]; exact fun w b hb => bools_at hb)
  generalize madeCells #[.bool false] (N * 1) = C at hmk HC
  replace hN := hide hN
  replace hN1 := hide hN1
  replace hN8 := hide hN8
  replace hM := hide hM
  replace HA := hide HA
  replace hR := hide hR
  go_enter Tryz.func4, Tryz.ntmps4
  go_wp2_with fail
  refine (unhide CA).mono ?_
  rintro e w0 ⟨rfl, g0⟩
  replace g0 := hide g0
  clear CA
  go_wp2_with fail
  refine (shapes15 _).mono ?_
  rintro e w1 ⟨rfl, hw1⟩
  have CN := hide (new15 40 (by decide) (by decide) w0 w1 hw1 (Tab.later (unhide ht) (unhide g0)))
  have g1 : Hid (G w w1) := hide ((unhide g0).trans (by rw [hw1]; exact G.alloc _ _))
  clear hw1 g0 ht
  go_wp2_with fail
  refine (unhide CN).mono ?_
  rintro e w2 ⟨x, rfl, ao', cap, nv, c, S0⟩
  have FIN : Hid (∀ y : World, Below w1.heap.size w1 y → G w y) := hide fun y b => Below.trans (unhide g1) (b.mono (unhide g1).size)
  have RS : Hid (∀ y : World, Below w1.heap.size w1 y → RsAt y rb ro rs) := hide fun y b i r hi => ((unhide FIN y b).cell (unhide hR i r hi))
  obtain ⟨w4, hw4⟩ : ∃ w4, w4 = (w2.alloc (.cells #[.slice none 0 0] 35)).alloc (.cells C 4) := ⟨_, rfl⟩
  have P0 := pg_start S0 C (unhide HC) _ w4 rfl hw4
  rw [World.size_alloc] at P0
  obtain ⟨c9, hc9⟩ : ∃ c9 : Nat → Nat, c9 = fun d => if w2.heap.size ≤ d then 9 else c d := ⟨_, rfl⟩
  rw [← hc9] at P0
  replace P0 : Hid (PG (⟨w1, x, ao', cap, nv, c9, w2.heap.size, w2.heap.size, w2.heap.size + 1, rs⟩ : Lw) ([] : List Int) (.slice none 0 0) (.slice none 0 0) (.slice none 0 0) [] [] [] w4) := hide P0
  clear CN S0 HC hc9 g1 c
  go_upto_region 12 with fail
  rw [← hw4]
  clear hw4 hmk d8 d8' d0 d0' d15 d15'
  go_upto_region 13 with fail
  go_loopw [8, 9, 11] (fun c8 c9' c11 wr => ∃ (i : Nat) (at_ : List Int) (a8 : Option Addr) (k8 : Nat) (a9 : Option Addr) (k9 : Nat) (a5 : Option Addr) (k5 : Nat), c8 = .slice a8 i k8 ∧ c9' = .slice a9 i k9 ∧ c11 = .int .i64 (i : Int) ∧ Hid (at_.length = i) ∧ Hid (i ≤ N) ∧ Hid (PG (⟨w1, x, ao', cap, nv, c9, w2.heap.size, w2.heap.size, w2.heap.size + 1, rs⟩ : Lw) at_ (.slice a8 i k8) (.slice a9 i k9) (.slice a5 i k5) (ivs at_) (nils i) (ivs at_) wr)) (fun _ _ c11 _ => N - (intOf c11).toNat)
  case atStart => exact ⟨0, [], none, 0, none, 0, none, 0, rfl, rfl, rfl, hide rfl, hide (Nat.zero_le _), P0⟩
  case round =>
    obtain ⟨i, at_, a8, k8, a9, k9, a5, k5, rfl, rfl, rfl, hli, hiN, P⟩ := hrel
    clear P0
    by_cases hi : i = N
    · have hi' : N = i := hi.symm
      subst hi'
      have P' := unhide P
      rw [← unhide hli] at P'
      obtain ⟨ab, vb, rfl, rfl, Q0'⟩ := P'.to2 ((unhide hli).trans (unhide hN).symm) (by rw [unhide hli]; exact unhide hN1)
      have Q0 : Hid (P2 (⟨w1, x, ao', cap, nv, c9, w2.heap.size, w2.heap.size, w2.heap.size + 1, rs⟩ : Lw) ab vb at_ (fun _ => []) (fun _ => []) (fun _ => false) (fun _ => false) (fun _ => none) (fun _ => 0) wr) := hide Q0'
      clear P' Q0' P hiN hi
      go_upto_region 25 with fail
      go_loopw [15] (fun c15 wq => ∃ (j : Nat) (qs : Nat → List Int) (cl : Nat → Bool) (av : Nat → Option Addr) (kv : Nat → Nat), c15 = .int .i64 (j : Int) ∧ Hid (j ≤ M) ∧ Hid (P2 (⟨w1, x, ao', cap, nv, c9, w2.heap.size, w2.heap.size, w2.heap.size + 1, rs⟩ : Lw) ab vb at_ qs qs cl cl av kv wq)) (fun c15 _ => M - (intOf c15).toNat)
      case atStart => exact ⟨0, _, _, _, _, rfl, hide (Nat.zero_le _), Q0⟩
      case round =>
        obtain ⟨j, qs, cl, av, kv, rfl, hjM, Q⟩ := hrel
        clear Q0
        by_cases hj : j = M
        · subst hj
          have F := hide (unhide FIN _ (unhide Q).below)
          clear Q
          go_wp2_with fail
          go_ret
          exact ⟨rfl, unhide F⟩
        · have hlt' : j < M := Nat.lt_of_le_of_ne (unhide hjM) hj
          have hlt : (j : Int) < (M : Int) := Int.ofNat_lt.2 hlt'
          obtain ⟨i1, hwi1, hi1, DC⟩ := cp_jdx hlt' (unhide hM)
          replace hi1 := hide hi1
          replace DC := hide DC
          have hlt1 : Hid (j + 1 ≤ M) := hide hlt'
          obtain ⟨s, lb, lo, _, hao, hlb, c0, c1, c2⟩ := (unhide HA).at_ (unhide FIN wr (unhide Q).below) hlt'
          obtain ⟨op, K, V⟩ := s
          simp only at c0 c1 c2
          subst hao
          obtain ⟨u, k, hu, hkt, hk⟩ := cp_key (unhide hN1) K
          have hN0 : ¬ (N : Int) = 0 := by have := unhide hN1; omega
          have hkI : (k : Int) < (N : Int) := Int.ofNat_lt.2 hk
          obtain ⟨r, a, hr, ha⟩ := (unhide Q).got (k := k) (by show k < rs.length; rw [unhide hN]; exact hk)
          have hr' : rs[k]? = some r := hr
          have hkl : Hid (k < (⟨w1, x, ao', cap, nv, c9, w2.heap.size, w2.heap.size, w2.heap.size + 1, rs⟩ : Lw).rs.length) := hide (by show k < rs.length; rw [unhide hN]; exact hk)
          -- what is read, in any world
          have FA : Hid (∀ (y : World) (qc ql : Nat → List Int) (cc cl : Nat → Bool) (av : Nat → Option Addr) (kv : Nat → Nat), P2 (⟨w1, x, ao', cap, nv, c9, w2.heap.size, w2.heap.size, w2.heap.size + 1, rs⟩ : Lw) ab vb at_ qc ql cc cl av kv y → y.cell? ⟨ab, k, none⟩ = some (.int .i64 a) ∧ y.cell? ⟨vb, k, none⟩ = some (.slice (av k) (ql k).length (kv k)) ∧ y.cell? ⟨w2.heap.size + 1, k, none⟩ = some (.bool (cl k)) ∧ y.cell? ⟨rb, ro + k, none⟩ = some (.int .i64 r)) := hide fun y qc ql cc cl av kv hy => ⟨hy.l2.ac k a ha, hy.l2.vc k (unhide hkl), hy.l2.cc k (unhide hkl), unhide RS y hy.below k r hr'⟩
          obtain ⟨wb, hwb⟩ : ∃ wb, wb = wr.alloc (.cells #[.int .i64 op, .int .i64 K, .int .i64 V] 46) := ⟨_, rfl⟩
          have gb : G wr wb := by rw [hwb]; exact G.alloc _ _
          have x0 : wb.cell? ⟨wr.heap.size, 0, none⟩ = some (.int .i64 op) := by rw [hwb]; exact World.cell?_alloc_new _ _ _ 0
          have x1 : wb.cell? ⟨wr.heap.size, 1, none⟩ = some (.int .i64 K) := by rw [hwb]; exact World.cell?_alloc_new _ _ _ 1
          have x2 : wb.cell? ⟨wr.heap.size, 2, none⟩ = some (.int .i64 V) := by rw [hwb]; exact World.cell?_alloc_new _ _ _ 2
          have zb : Hid (w2.heap.size ≤ wr.heap.size ∧ wr.heap.size < wb.heap.size) := hide ⟨(unhide Q).sz, by rw [hwb, World.size_alloc]; omega⟩
          have Qb := hide ((unhide Q).gr gb)
          obtain ⟨f1, f2, f3, f4⟩ := unhide FA wb _ _ _ _ _ _ (unhide Qb)
          have hgd : Hid ((0 ≤ r ∧ r ≤ 59 ∧ a ≠ 0 ∧ (qs k).length ≤ 59) ∨ (¬ (0 ≤ r ∧ r ≤ 59) ∧ a = 0 ∧ qs k = [])) := hide ((unhide Q).good hr ha)
          replace ha := hide ha
          replace hr := hide hr
          have hlow : ∀ d ∈ Gy.blk (av k), d < wr.heap.size := (unhide Q).low (unhide hkl)
          have vlt : Hid (vb < wr.heap.size) := hide (unhide Q).l2.lt.2.1
          clear Q gb hj hlt' hjM hr'
          go_upto_region 28 with fail
          rw [← hwb]
          clear hwb c0 c1 c2 hlb
          go_upto_region 30 with fail
          have nlo : Hid (∀ d ∈ Gy.blk (av k), d < wr.heap.size) := hide hlow
          clear hlow
          have haa : (a == 0) = true ∧ (a != 0) = false ∧ (∀ s, okS a s = true) ∧ a = 0 ∨ (a == 0) = false ∧ (a != 0) = true ∧ (∀ s, okS a s = s) ∧ a ≠ 0 := by
            by_cases hz : a = 0
            · exact Or.inl ⟨by simp [hz], by simp [hz], fun s => by simp [okS, hz], hz⟩
            · exact Or.inr ⟨by simp [hz], by simp [hz], fun s => by simp [okS, hz], hz⟩
          replace haa := hide haa
          by_cases h0 : op = 0
          · subst h0
            rcases unhide haa with ⟨hz1, hz2, hoS, hz⟩ | ⟨hz1, hz2, hoS, hz⟩
            · have hok : Hid (okP r a (qs k) (cl k) = false) := hide (by unfold okP; rw [hz2]; rfl)
              as_aux_lemma =>
                replace hoS := hide hoS
                clear haa
                have CP : Hid (∀ y', G wb y' → Calls Tryz.prog 13 #[.pointer (some ⟨x.hb, 0, none⟩), .int .i64 a, .int .i64 V, .int .i64 1] y' fun e w' => e = .returned (.bool false) ∧ P2 (⟨w1, x, ao', cap, nv, c9, w2.heap.size, w2.heap.size, w2.heap.size + 1, rs⟩ : Lw) ab vb at_ (qs) qs cl cl av kv w' ∧ w'.cell? ⟨wr.heap.size, 2, none⟩ = some (.int .i64 V)) := hide fun y' g => by
                  have hh := p2_push (hide ((unhide Qb).gr g)) (unhide hr) (unhide ha) V
                  rw [unhide hok] at hh
                  refine hh.mono fun e w' hq => ⟨hq.1, by have := hq.2.1; rw [if_neg (by decide)] at this; exact this, cell_blk (hq.2.2.2 _ (unhide zb).1 (Nat.lt_of_lt_of_le (unhide zb).2 g.size)) (g.cell x2)⟩
                clear hok Qb hz
                go_upto_region 35 with fail
                go_quiet (fail)
                go_wp2_with fail
                refine (unhide CP _ (by first | exact G.drewN _ _ | exact G.refl _)).mono ?_
                rintro e w9 ⟨rfl, Q9, x2'⟩
                replace Q9 := hide Q9
                clear CP x0 x1 x2 f1 f2 f3 f4
                clear x2'
                go_upto_region 46 with fail
                -- Count, Closed
                obtain ⟨q1, q2, q3, q4⟩ := unhide FA w9 _ _ _ _ _ _ (unhide Q9)
                obtain ⟨sa, hsa⟩ : ∃ z, z = av k := ⟨_, rfl⟩
                obtain ⟨sk, hsk⟩ : ∃ z, z = kv k := ⟨_, rfl⟩
                obtain ⟨sn, hsn⟩ : ∃ z, z = (qs k).length := ⟨_, rfl⟩
                obtain ⟨sc, hsc⟩ : ∃ z : Bool, z = cl k := ⟨_, rfl⟩
                rw [← hsa, ← hsn, ← hsk] at q2
                rw [← hsc] at q3
                have KD : Hid (G w9 w9.drew ∧ w9.drew.cell? ⟨vb, k, none⟩ = some (.slice sa sn sk) ∧ w9.drew.cell? ⟨w2.heap.size + 1, k, none⟩ = some (.bool sc)) := hide ⟨(G.refl _).drew, (G.refl w9).drew.cell q2, (G.refl w9).drew.cell q3⟩
                have KC : Hid (∀ p q : World, (G w9 p ∧ p.cell? ⟨vb, k, none⟩ = some (.slice sa sn sk) ∧ p.cell? ⟨w2.heap.size + 1, k, none⟩ = some (.bool sc)) → G p q → (G w9 q ∧ q.cell? ⟨vb, k, none⟩ = some (.slice sa sn sk) ∧ q.cell? ⟨w2.heap.size + 1, k, none⟩ = some (.bool sc))) := hide fun p q hp g => ⟨hp.1.trans g, g.cell hp.2.1, g.cell hp.2.2⟩
                have K1 : Hid (∀ y, (G w9 y ∧ y.cell? ⟨vb, k, none⟩ = some (.slice sa sn sk) ∧ y.cell? ⟨w2.heap.size + 1, k, none⟩ = some (.bool sc)) → Calls Tryz.prog 17 #[.pointer (some ⟨x.hb, 0, none⟩), .int .i64 a] y fun e w' => e = .returned (.int .i64 (sn : Int)) ∧ G y w') := hide fun y hy => by rw [hsn]; exact p2_count (hide ((unhide Q9).gr hy.1)) (unhide hr) (unhide ha)
                have K2 : Hid (∀ y, (G w9 y ∧ y.cell? ⟨vb, k, none⟩ = some (.slice sa sn sk) ∧ y.cell? ⟨w2.heap.size + 1, k, none⟩ = some (.bool sc)) → Calls Tryz.prog 15 #[.pointer (some ⟨x.hb, 0, none⟩), .int .i64 a] y fun e w' => e = .returned (.bool true) ∧ G y w') := hide fun y hy => by
                  have hh := p2_shut (hide ((unhide Q9).gr hy.1)) (unhide hr) (unhide ha)
                  rw [← hsc, unhide hoS] at hh
                  exact hh
                have hnn : ((sn : Int) != (sn : Int)) = false := by simp
                have hss : (sc == sc) = true := by simp
                clear hsa hsk hsn q1 q4 hsc q2 q3
                refine wp_region_noPanic ?_
                refine wp_region_held_drew (S := fun y => G w9 y ∧ y.cell? ⟨vb, k, none⟩ = some (.slice sa sn sk) ∧ y.cell? ⟨w2.heap.size + 1, k, none⟩ = some (.bool sc)) (by kernel_rfl) (unhide KD) (fun hHeld => ?_)
                refine wpAnyH_take (i := 0) (v := .pointer (some ⟨x.hb, 0, none⟩)) rfl (by kernel_rfl) (by kernel_rfl) (by kernel_rfl) (fun _ _ _ h => h) (Or.inl ⟨by rfl, fun w hSw => by obtain ⟨t0, t1, t2⟩ := hSw; go_simp⟩) (by assumption) ?_
                try simp only [Act.put, List.getElem_toArray, List.getElem_cons_zero, List.setIfInBounds_toArray, List.set_cons_zero, List.set_cons_succ]
                refine wpAnyH_take (i := 1) (v := .int .i64 a) rfl (by kernel_rfl) (by kernel_rfl) (by kernel_rfl) (fun _ _ _ h => h) (Or.inl ⟨by rfl, fun w hSw => by obtain ⟨t0, t1, t2⟩ := hSw; go_simp⟩) (by assumption) ?_
                try simp only [Act.put, List.getElem_toArray, List.getElem_cons_succ, List.getElem_cons_zero, List.setIfInBounds_toArray, List.set_cons_zero, List.set_cons_succ]
                refine wpAnyH_take (i := 3) (v := .slice (some ⟨vb, 0, none⟩) N k9) rfl (by kernel_rfl) (by kernel_rfl) (by kernel_rfl) (fun _ _ _ h => h) (Or.inl ⟨by rfl, fun w hSw => by obtain ⟨t0, t1, t2⟩ := hSw; go_simp⟩) (by assumption) ?_
                try simp only [Act.put, List.getElem_toArray, List.getElem_cons_succ, List.getElem_cons_zero, List.setIfInBounds_toArray, List.set_cons_zero, List.set_cons_succ]
                refine wpAnyH_take (i := 4) (v := .int .i64 (k : Int)) rfl (by kernel_rfl) (by kernel_rfl) (by kernel_rfl) (fun _ _ _ h => h) (Or.inl ⟨by rfl, fun w hSw => by obtain ⟨t0, t1, t2⟩ := hSw; go_simp⟩) (by assumption) ?_
                try simp only [Act.put, List.getElem_toArray, List.getElem_cons_succ, List.getElem_cons_zero, List.setIfInBounds_toArray, List.set_cons_zero, List.set_cons_succ]
                refine wpAnyH_take (i := 5) (v := .pointer (some ⟨vb, k, none⟩)) rfl (by kernel_rfl) (by kernel_rfl) (by kernel_rfl) (fun _ _ _ h => h) (Or.inl ⟨by rfl, fun w hSw => by obtain ⟨t0, t1, t2⟩ := hSw; go_simp⟩) (by assumption) ?_
                try simp only [Act.put, List.getElem_toArray, List.getElem_cons_succ, List.getElem_cons_zero, List.setIfInBounds_toArray, List.set_cons_zero, List.set_cons_succ]
                refine wpAnyH_take (i := 6) (v := .slice sa sn sk) rfl (by kernel_rfl) (by kernel_rfl) (by kernel_rfl) (fun _ _ _ h => h) (Or.inl ⟨by rfl, fun w hSw => by obtain ⟨t0, t1, t2⟩ := hSw; go_simp⟩) (by assumption) ?_
                try simp only [Act.put, List.getElem_toArray, List.getElem_cons_succ, List.getElem_cons_zero, List.setIfInBounds_toArray, List.set_cons_zero, List.set_cons_succ]
                refine wpAnyH_take (i := 7) (v := .int .i64 (sn : Int)) rfl (by kernel_rfl) (by kernel_rfl) (by kernel_rfl) (fun _ _ _ h => h) (Or.inl ⟨by rfl, fun w hSw => by obtain ⟨t0, t1, t2⟩ := hSw; go_simp⟩) (by assumption) ?_
                try simp only [Act.put, List.getElem_toArray, List.getElem_cons_succ, List.getElem_cons_zero, List.setIfInBounds_toArray, List.set_cons_zero, List.set_cons_succ]
                refine wpAnyH_ready (rs := [2]) (by kernel_rfl) (by simp) ?_
                refine AllReadyH.cons rfl (fun K hK => ?_) AllReadyH.nil
                go_simp
                refine (unhide K1 _ hHeld).mono ?_
                rintro e w10 ⟨rfl, hg10⟩
                go_wp2_with fail
                refine hK.out _ _ (unhide KC _ _ hHeld hg10) (fun hHeld => ?_)
                clear hK K
                try simp only [Act.put, List.getElem_toArray, List.getElem_cons_succ, List.getElem_cons_zero, List.setIfInBounds_toArray, List.set_cons_zero, List.set_cons_succ]
                refine wpAnyH_take (i := 8) (v := .bool false) rfl (by kernel_rfl) (by kernel_rfl) (by kernel_rfl) (fun _ _ _ h => h) (Or.inl ⟨by rfl, fun w hSw => by obtain ⟨t0, t1, t2⟩ := hSw; go_simp⟩) (by assumption) ?_
                try simp only [Act.put, List.getElem_toArray, List.getElem_cons_succ, List.getElem_cons_zero, List.setIfInBounds_toArray, List.set_cons_zero, List.set_cons_succ]
                refine wpAnyH_take (i := 9) (v := .bool false) rfl (by kernel_rfl) (by kernel_rfl) (by kernel_rfl) (fun _ _ _ h => h) (Or.inl ⟨by rfl, fun w hSw => by obtain ⟨t0, t1, t2⟩ := hSw; go_simp⟩) (by assumption) ?_
                try simp only [Act.put, List.getElem_toArray, List.getElem_cons_succ, List.getElem_cons_zero, List.setIfInBounds_toArray, List.set_cons_zero, List.set_cons_succ]
                refine wpAnyH_take (i := 10) (v := .pointer (some ⟨x.hb, 0, none⟩)) rfl (by kernel_rfl) (by kernel_rfl) (by kernel_rfl) (fun _ _ _ h => h) (Or.inl ⟨by rfl, fun w hSw => by obtain ⟨t0, t1, t2⟩ := hSw; go_simp⟩) (by assumption) ?_
                try simp only [Act.put, List.getElem_toArray, List.getElem_cons_succ, List.getElem_cons_zero, List.setIfInBounds_toArray, List.set_cons_zero, List.set_cons_succ]
                refine wpAnyH_take (i := 11) (v := .int .i64 a) rfl (by kernel_rfl) (by kernel_rfl) (by kernel_rfl) (fun _ _ _ h => h) (Or.inl ⟨by rfl, fun w hSw => by obtain ⟨t0, t1, t2⟩ := hSw; go_simp⟩) (by assumption) ?_
                try simp only [Act.put, List.getElem_toArray, List.getElem_cons_succ, List.getElem_cons_zero, List.setIfInBounds_toArray, List.set_cons_zero, List.set_cons_succ]
                refine wpAnyH_take (i := 13) (v := .int .i64 a) rfl (by kernel_rfl) (by kernel_rfl) (by kernel_rfl) (fun _ _ _ h => h) (Or.inl ⟨by rfl, fun w hSw => by obtain ⟨t0, t1, t2⟩ := hSw; go_simp⟩) (by assumption) ?_
                try simp only [Act.put, List.getElem_toArray, List.getElem_cons_succ, List.getElem_cons_zero, List.setIfInBounds_toArray, List.set_cons_zero, List.set_cons_succ]
                refine wpAnyH_take (i := 14) (v := .bool true) rfl (by kernel_rfl) (by kernel_rfl) (by kernel_rfl) (fun _ _ _ h => h) (Or.inl ⟨by rfl, fun w hSw => by obtain ⟨t0, t1, t2⟩ := hSw; go_simp⟩) (by assumption) ?_
                try simp only [Act.put, List.getElem_toArray, List.getElem_cons_succ, List.getElem_cons_zero, List.setIfInBounds_toArray, List.set_cons_zero, List.set_cons_succ]
                refine wpAnyH_ready (rs := [12]) (by kernel_rfl) (by simp) ?_
                refine AllReadyH.cons rfl (fun K hK => ?_) AllReadyH.nil
                go_simp
                refine (unhide K2 _ hHeld).mono ?_
                rintro e w11 ⟨rfl, hg11⟩
                go_wp2_with fail
                refine hK.out _ _ (unhide KC _ _ hHeld hg11) (fun hHeld => ?_)
                clear hK K
                try simp only [Act.put, List.getElem_toArray, List.getElem_cons_succ, List.getElem_cons_zero, List.setIfInBounds_toArray, List.set_cons_zero, List.set_cons_succ]
                refine wpAnyH_take (i := 15) (v := .bool true) rfl (by kernel_rfl) (by kernel_rfl) (by kernel_rfl) (fun _ _ _ h => h) (Or.inl ⟨by rfl, fun w hSw => by obtain ⟨t0, t1, t2⟩ := hSw; go_simp⟩) (by assumption) ?_
                try simp only [Act.put, List.getElem_toArray, List.getElem_cons_succ, List.getElem_cons_zero, List.setIfInBounds_toArray, List.set_cons_zero, List.set_cons_succ]
                refine wpAnyH_take (i := 16) (v := undef) rfl (by kernel_rfl) (by kernel_rfl) (by kernel_rfl) (fun _ _ _ h => h) (Or.inr ⟨by rfl, rfl⟩) (by assumption) ?_
                try simp only [Act.put, List.getElem_toArray, List.getElem_cons_succ, List.getElem_cons_zero, List.setIfInBounds_toArray, List.set_cons_zero, List.set_cons_succ]
                refine wpAnyH_take (i := 17) (v := undef) rfl (by kernel_rfl) (by kernel_rfl) (by kernel_rfl) (fun _ _ _ h => h) (Or.inr ⟨by rfl, rfl⟩) (by assumption) ?_
                try simp only [Act.put, List.getElem_toArray, List.getElem_cons_succ, List.getElem_cons_zero, List.setIfInBounds_toArray, List.set_cons_zero, List.set_cons_succ]
                refine wpAnyH_take (i := 18) (v := undef) rfl (by kernel_rfl) (by kernel_rfl) (by kernel_rfl) (fun _ _ _ h => h) (Or.inr ⟨by rfl, rfl⟩) (by assumption) ?_
                try simp only [Act.put, List.getElem_toArray, List.getElem_cons_succ, List.getElem_cons_zero, List.setIfInBounds_toArray, List.set_cons_zero, List.set_cons_succ]
                refine wpAnyH_take (i := 19) (v := undef) rfl (by kernel_rfl) (by kernel_rfl) (by kernel_rfl) (fun _ _ _ h => h) (Or.inr ⟨by rfl, rfl⟩) (by assumption) ?_
                try simp only [Act.put, List.getElem_toArray, List.getElem_cons_succ, List.getElem_cons_zero, List.setIfInBounds_toArray, List.set_cons_zero, List.set_cons_succ]
                refine wpAnyH_take (i := 20) (v := .bool true) rfl (by kernel_rfl) (by kernel_rfl) (by kernel_rfl) (fun _ _ _ h => h) (Or.inl ⟨by rfl, fun w hSw => by obtain ⟨t0, t1, t2⟩ := hSw; go_simp⟩) (by assumption) ?_
                try simp only [Act.put, List.getElem_toArray, List.getElem_cons_succ, List.getElem_cons_zero, List.setIfInBounds_toArray, List.set_cons_zero, List.set_cons_succ]
                refine wpAnyH_take (i := 21) (v := .bool false) rfl (by kernel_rfl) (by kernel_rfl) (by kernel_rfl) (fun _ _ _ h => h) (Or.inl ⟨by rfl, fun w hSw => by obtain ⟨t0, t1, t2⟩ := hSw; go_simp⟩) (by assumption) ?_
                try simp only [Act.put, List.getElem_toArray, List.getElem_cons_succ, List.getElem_cons_zero, List.setIfInBounds_toArray, List.set_cons_zero, List.set_cons_succ]
                refine wpAnyH_take (i := 22) (v := .bool false) rfl (by kernel_rfl) (by kernel_rfl) (by kernel_rfl) (fun _ _ _ h => h) (Or.inl ⟨by rfl, fun w hSw => by obtain ⟨t0, t1, t2⟩ := hSw; go_simp⟩) (by assumption) ?_
                try simp only [Act.put, List.getElem_toArray, List.getElem_cons_succ, List.getElem_cons_zero, List.setIfInBounds_toArray, List.set_cons_zero, List.set_cons_succ]
                refine wpAnyH_done (by kernel_rfl) (NoPanic.normal ?_) _
                all_goals
                  have Q10 := hide ((unhide Q9).gr (((G.refl w9).drew.trans hg10).trans hg11))
                  clear Q9 KD KC K1 K2 hg10 hg11
                  go_wp2_with fail
                  go_roundw
                  case rel => exact ⟨j + 1, _, _, _, _, by first | rw [hwi1, unhide hi1] | rw [unhide hi1], hlt1, Q10⟩
                  case measure => first | (rw [hwi1]; exact unhide DC) | exact unhide DC
            · rcases Bool.eq_false_or_eq_true (cl k) with hc | hc
              · have hok : Hid (okP r a (qs k) (cl k) = false) := hide (by unfold okP; rw [hc]; simp)
                have hl : ((qs k).length : Int) = ((qs k).length : Int) := rfl
                as_aux_lemma =>
                  replace hoS := hide hoS
                  clear haa
                  have CP : Hid (∀ y', G wb y' → Calls Tryz.prog 13 #[.pointer (some ⟨x.hb, 0, none⟩), .int .i64 a, .int .i64 V, .int .i64 1] y' fun e w' => e = .returned (.bool false) ∧ P2 (⟨w1, x, ao', cap, nv, c9, w2.heap.size, w2.heap.size, w2.heap.size + 1, rs⟩ : Lw) ab vb at_ (qs) qs cl cl av kv w' ∧ w'.cell? ⟨wr.heap.size, 2, none⟩ = some (.int .i64 V)) := hide fun y' g => by
                    have hh := p2_push (hide ((unhide Qb).gr g)) (unhide hr) (unhide ha) V
                    rw [unhide hok] at hh
                    refine hh.mono fun e w' hq => ⟨hq.1, by have := hq.2.1; rw [if_neg (by decide)] at this; exact this, cell_blk (hq.2.2.2 _ (unhide zb).1 (Nat.lt_of_lt_of_le (unhide zb).2 g.size)) (g.cell x2)⟩
                  obtain ⟨sc0, hsc0⟩ : ∃ z : Bool, z = cl k := ⟨_, rfl⟩
                  obtain ⟨sn0, hsn0⟩ : ∃ z : Nat, z = (qs k).length := ⟨_, rfl⟩
                  rw [← hsc0] at f3 hc
                  rw [← hsn0] at f2 hl
                  subst hc
                  replace hsc0 := hide hsc0
                  replace hsn0 := hide hsn0
                  clear hok Qb hz
                  go_upto_region 35 with fail
                  go_quiet (fail)
                  go_wp2_with fail
                  refine (unhide CP _ (by first | exact G.drewN _ _ | exact G.refl _)).mono ?_
                  rintro e w9 ⟨rfl, Q9, x2'⟩
                  replace Q9 := hide Q9
                  clear CP x0 x1 x2 f1 f2 f3 f4
                  clear x2'
                  go_upto_region 46 with fail
                  -- Count, Closed
                  obtain ⟨q1, q2, q3, q4⟩ := unhide FA w9 _ _ _ _ _ _ (unhide Q9)
                  obtain ⟨sa, hsa⟩ : ∃ z, z = av k := ⟨_, rfl⟩
                  obtain ⟨sk, hsk⟩ : ∃ z, z = kv k := ⟨_, rfl⟩
                  obtain ⟨sn, hsn⟩ : ∃ z, z = (qs k).length := ⟨_, rfl⟩
                  obtain ⟨sc, hsc⟩ : ∃ z : Bool, z = cl k := ⟨_, rfl⟩
                  rw [← hsa, ← hsn, ← hsk] at q2
                  rw [← hsc] at q3
                  have KD : Hid (G w9 w9.drew ∧ w9.drew.cell? ⟨vb, k, none⟩ = some (.slice sa sn sk) ∧ w9.drew.cell? ⟨w2.heap.size + 1, k, none⟩ = some (.bool sc)) := hide ⟨(G.refl _).drew, (G.refl w9).drew.cell q2, (G.refl w9).drew.cell q3⟩
                  have KC : Hid (∀ p q : World, (G w9 p ∧ p.cell? ⟨vb, k, none⟩ = some (.slice sa sn sk) ∧ p.cell? ⟨w2.heap.size + 1, k, none⟩ = some (.bool sc)) → G p q → (G w9 q ∧ q.cell? ⟨vb, k, none⟩ = some (.slice sa sn sk) ∧ q.cell? ⟨w2.heap.size + 1, k, none⟩ = some (.bool sc))) := hide fun p q hp g => ⟨hp.1.trans g, g.cell hp.2.1, g.cell hp.2.2⟩
                  have K1 : Hid (∀ y, (G w9 y ∧ y.cell? ⟨vb, k, none⟩ = some (.slice sa sn sk) ∧ y.cell? ⟨w2.heap.size + 1, k, none⟩ = some (.bool sc)) → Calls Tryz.prog 17 #[.pointer (some ⟨x.hb, 0, none⟩), .int .i64 a] y fun e w' => e = .returned (.int .i64 (sn : Int)) ∧ G y w') := hide fun y hy => by rw [hsn]; exact p2_count (hide ((unhide Q9).gr hy.1)) (unhide hr) (unhide ha)
                  have K2 : Hid (∀ y, (G w9 y ∧ y.cell? ⟨vb, k, none⟩ = some (.slice sa sn sk) ∧ y.cell? ⟨w2.heap.size + 1, k, none⟩ = some (.bool sc)) → Calls Tryz.prog 15 #[.pointer (some ⟨x.hb, 0, none⟩), .int .i64 a] y fun e w' => e = .returned (.bool sc) ∧ G y w') := hide fun y hy => by
                    have hh := p2_shut (hide ((unhide Q9).gr hy.1)) (unhide hr) (unhide ha)
                    rw [← hsc, unhide hoS] at hh
                    exact hh
                  have hnn : ((sn : Int) != (sn : Int)) = false := by simp
                  have hss : (sc == sc) = true := by simp
                  clear hsa hsk hsn q1 q4 hsc q2 q3
                  go_region_held3 (fun y => G w9 y ∧ y.cell? ⟨vb, k, none⟩ = some (.slice sa sn sk) ∧ y.cell? ⟨w2.heap.size + 1, k, none⟩ = some (.bool sc))
                    (first | assumption | exact unhide KD | exact unhide KC _ _ (by assumption) (by assumption))
                    ((first | (go_at_call 17; refine (unhide K1 _ ?_).mono ?_; assumption; rintro e w10 ⟨rfl, hg10⟩) | (go_at_call 15; refine (unhide K2 _ ?_).mono ?_; assumption; rintro e w11 ⟨rfl, hg11⟩)))
                  all_goals
                    have Q10 := hide ((unhide Q9).gr (((G.refl w9).drew.trans hg10).trans hg11))
                    clear Q9 KD KC K1 K2 hg10 hg11
                    go_wp2_with fail
                    go_roundw
                    case rel => exact ⟨j + 1, _, _, _, _, by first | rw [hwi1, unhide hi1] | rw [unhide hi1], hlt1, Q10⟩
                    case measure => first | (rw [hwi1]; exact unhide DC) | exact unhide DC
              · by_cases hl' : ((qs k).length : Int) < r
                · have hok : Hid (okP r a (qs k) (cl k) = true) := hide (by unfold okP; rw [hc, hz2]; simpa using hl')
                  have hl : decide (((qs k).length : Int) < r) = true := by simpa using hl'
                  have hqn : Hid ((qs k).length ≤ 1000) := hide (by rcases unhide hgd with g | g; omega; rw [g.2.2]; simp)
                  clear hl' 
                  as_aux_lemma =>
                    replace hoS := hide hoS
                    clear haa
                    have CP : Hid (∀ y', G wb y' → Calls Tryz.prog 13 #[.pointer (some ⟨x.hb, 0, none⟩), .int .i64 a, .int .i64 V, .int .i64 1] y' fun e w' => e = .returned (.bool true) ∧ P2 (⟨w1, x, ao', cap, nv, c9, w2.heap.size, w2.heap.size, w2.heap.size + 1, rs⟩ : Lw) ab vb at_ (at1 qs k (qs k ++ [V])) qs cl cl av kv w' ∧ w'.cell? ⟨wr.heap.size, 2, none⟩ = some (.int .i64 V)) := hide fun y' g => by
                      have hh := p2_push (hide ((unhide Qb).gr g)) (unhide hr) (unhide ha) V
                      rw [unhide hok] at hh
                      refine hh.mono fun e w' hq => ⟨hq.1, by have := hq.2.1; rw [if_pos rfl] at this; exact this, cell_blk (hq.2.2.2 _ (unhide zb).1 (Nat.lt_of_lt_of_le (unhide zb).2 g.size)) (g.cell x2)⟩
                    obtain ⟨sc0, hsc0⟩ : ∃ z : Bool, z = cl k := ⟨_, rfl⟩
                    obtain ⟨sn0, hsn0⟩ : ∃ z : Nat, z = (qs k).length := ⟨_, rfl⟩
                    rw [← hsc0] at f3 hc
                    rw [← hsn0] at f2 hl
                    subst hc
                    replace hsc0 := hide hsc0
                    replace hsn0 := hide hsn0
                    clear hok Qb hz
                    go_upto_region 35 with fail
                    go_quiet (fail)
                    go_wp2_with fail
                    refine (unhide CP _ (by first | exact G.drewN _ _ | exact G.refl _)).mono ?_
                    rintro e w5 ⟨rfl, Q5, x2'⟩
                    replace Q5 := hide Q5
                    clear CP x0 x1 x2 f1 f2 f3 f4
                    obtain ⟨q1, q2, q3, q4⟩ := unhide FA w5 _ _ _ _ _ _ (unhide Q5)
                    have nvb : Hid (vb ≠ wr.heap.size) := hide (Nat.ne_of_lt (unhide vlt))
                    obtain ⟨aoN, capN, w7, hrun, v7, z7, k7, Q7⟩ := ((unhide Q5).gr (G.refl w5).drew).app (unhide hkl) (unhide hqn) V
                    have x7 : w7.cell? ⟨wr.heap.size, 2, none⟩ = some (.int .i64 V) := cell_blk (k7 _ (World.block_lt_of_cell? w5 _ x2') (fun hm => Nat.lt_irrefl _ (unhide nlo _ hm))) x2'
                    obtain ⟨sa0, hsa0⟩ : ∃ z, z = av k := ⟨_, rfl⟩
                    obtain ⟨sk0, hsk0⟩ : ∃ z, z = kv k := ⟨_, rfl⟩
                    rw [← hsa0, ← unhide hsn0, ← hsk0] at q2 v7 hrun
                    rw [← unhide hsn0] at Q7
                    obtain ⟨w9, hw9⟩ : ∃ z, z = w7.setCell ⟨vb, k, none⟩ (.slice aoN (sn0 + 1) capN) := ⟨_, rfl⟩
                    obtain ⟨qs9, av9, kv9, Q9⟩ : ∃ qs9 av9 kv9, Hid (P2 (⟨w1, x, ao', cap, nv, c9, w2.heap.size, w2.heap.size, w2.heap.size + 1, rs⟩ : Lw) ab vb at_ qs9 qs9 cl cl av9 kv9 w9) := ⟨_, _, _, hide (by rw [hw9]; exact Q7)⟩
                    have hS0 : Hid (w5.drew.cell? ⟨vb, k, none⟩ = some (.slice sa0 sn0 sk0) ∧ w5.drew.cell? ⟨wr.heap.size, 2, none⟩ = some (.int .i64 V)) := hide ⟨q2, x2'⟩
                    have hS1 : Hid ((w5.drew.alloc (.cells #[.int .i64 V] 2)).cell? ⟨vb, k, none⟩ = some (.slice sa0 sn0 sk0) ∧ (w5.drew.alloc (.cells #[.int .i64 V] 2)).cell? ⟨wr.heap.size, 2, none⟩ = some (.int .i64 V)) := hide ⟨(G.alloc _ _).cell (unhide hS0).1, (G.alloc _ _).cell (unhide hS0).2⟩
                    have hS2 : Hid (w9.cell? ⟨wr.heap.size, 2, none⟩ = some (.int .i64 V)) := hide (by rw [hw9, World.cell?_setCell_other _ _ _ _ (by intro e; injection e with e1 _ _; exact unhide nvb e1)]; exact x7)
                    replace hrun := hide hrun
                    replace hw9 := hide hw9
                    clear Q5 Q7 hsa0 hsk0 q1 q2 q3 q4 k7 x2'
                    go_upto_region 39 with fail
                    refine wp_region_noPanic ?_
                    refine wp_region_held_drew (S := fun y => y.cell? ⟨wr.heap.size, 2, none⟩ = some (.int .i64 V)) (by kernel_rfl) (unhide hS0).2 (fun hHeld => ?_)
                    refine wpAnyH_take (i := 0) (v := .slice (some ⟨vb, 0, none⟩) N k9) rfl (by kernel_rfl) (by kernel_rfl) (by kernel_rfl) (fun _ _ _ h => h) (Or.inl ⟨by rfl, fun w hSw => by go_simp⟩) (by assumption) ?_
                    try simp only [Act.put, List.getElem_toArray, List.getElem_cons_zero, List.setIfInBounds_toArray, List.set_cons_zero, List.set_cons_succ]
                    refine wpAnyH_take (i := 1) (v := .int .i64 (k : Int)) rfl (by kernel_rfl) (by kernel_rfl) (by kernel_rfl) (fun _ _ _ h => h) (Or.inl ⟨by rfl, fun w hSw => by go_simp⟩) (by assumption) ?_
                    try simp only [Act.put, List.getElem_toArray, List.getElem_cons_succ, List.getElem_cons_zero, List.setIfInBounds_toArray, List.set_cons_zero, List.set_cons_succ]
                    refine wpAnyH_take (i := 2) (v := .slice (some ⟨vb, 0, none⟩) N k9) rfl (by kernel_rfl) (by kernel_rfl) (by kernel_rfl) (fun _ _ _ h => h) (Or.inl ⟨by rfl, fun w hSw => by go_simp⟩) (by assumption) ?_
                    try simp only [Act.put, List.getElem_toArray, List.getElem_cons_succ, List.getElem_cons_zero, List.setIfInBounds_toArray, List.set_cons_zero, List.set_cons_succ]
                    refine wpAnyH_take (i := 3) (v := .int .i64 (k : Int)) rfl (by kernel_rfl) (by kernel_rfl) (by kernel_rfl) (fun _ _ _ h => h) (Or.inl ⟨by rfl, fun w hSw => by go_simp⟩) (by assumption) ?_
                    try simp only [Act.put, List.getElem_toArray, List.getElem_cons_succ, List.getElem_cons_zero, List.setIfInBounds_toArray, List.set_cons_zero, List.set_cons_succ]
                    refine wpAnyH_take (i := 4) (v := .pointer (some ⟨vb, k, none⟩)) rfl (by kernel_rfl) (by kernel_rfl) (by kernel_rfl) (fun _ _ _ h => h) (Or.inl ⟨by rfl, fun w hSw => by go_simp⟩) (by assumption) ?_
                    try simp only [Act.put, List.getElem_toArray, List.getElem_cons_succ, List.getElem_cons_zero, List.setIfInBounds_toArray, List.set_cons_zero, List.set_cons_succ]
                    refine wpAnyH_take (i := 6) (v := .pointer (some ⟨wr.heap.size, 2, none⟩)) rfl (by kernel_rfl) (by kernel_rfl) (by kernel_rfl) (fun _ _ _ h => h) (Or.inl ⟨by rfl, fun w hSw => by go_simp⟩) (by assumption) ?_
                    try simp only [Act.put, List.getElem_toArray, List.getElem_cons_succ, List.getElem_cons_zero, List.setIfInBounds_toArray, List.set_cons_zero, List.set_cons_succ]
                    refine wpAnyH_take (i := 7) (v := .int .i64 V) rfl (by kernel_rfl) (by kernel_rfl) (by kernel_rfl) (fun _ _ _ h => h) (Or.inl ⟨by rfl, fun w hSw => by go_simp⟩) (by assumption) ?_
                    try simp only [Act.put, List.getElem_toArray, List.getElem_cons_succ, List.getElem_cons_zero, List.setIfInBounds_toArray, List.set_cons_zero, List.set_cons_succ]
                    refine wpAnyH_ready (rs := [5, 8]) (by kernel_rfl) (by simp) ?_
                    refine AllReadyH.cons rfl (fun K hK => ?_) (AllReadyH.cons rfl (fun K hK => ?_) AllReadyH.nil)
                    · have c5 := (unhide hS0).1
                      go_simp
                      refine hK.out _ _ (unhide hS0).2 (fun hHeld => ?_)
                      clear hK K c5
                      try simp only [Act.put, List.getElem_toArray, List.getElem_cons_succ, List.getElem_cons_zero, List.setIfInBounds_toArray, List.set_cons_zero, List.set_cons_succ]
                      refine wpAnyH_ready (rs := [8]) (by kernel_rfl) (by simp) ?_
                      refine AllReadyH.cons rfl (fun K hK => ?_) AllReadyH.nil
                      go_simp
                      refine hK.out _ (w5.drew.alloc (.cells #[.int .i64 V] 2)) (unhide hS1).2 (fun hHeld => ?_)
                      clear hK K
                      try simp only [Act.put, List.getElem_toArray, List.getElem_cons_succ, List.getElem_cons_zero, List.setIfInBounds_toArray, List.set_cons_zero, List.set_cons_succ]
                      refine wpAnyH_ready (rs := [9]) (by kernel_rfl) (by simp) ?_
                      refine AllReadyH.cons rfl (fun K hK => ?_) AllReadyH.nil
                      refine step_app rfl (.tmp 192) (.tmp 195) 33 rfl _ _ rfl rfl _ _ (unhide hrun) ?_
                      refine hK.out _ _ x7 (fun hHeld => ?_)
                      clear hK K hrun
                      try simp only [Act.put, List.getElem_toArray, List.getElem_cons_succ, List.getElem_cons_zero, List.setIfInBounds_toArray, List.set_cons_zero, List.set_cons_succ]
                      refine wpAnyH_take (i := 10) (v := .pointer (some ⟨vb, k, none⟩)) rfl (by kernel_rfl) (by kernel_rfl) (by kernel_rfl) (fun _ _ _ h => h) (Or.inl ⟨by rfl, fun w hSw => by go_simp⟩) (by assumption) ?_
                      try simp only [Act.put, List.getElem_toArray, List.getElem_cons_succ, List.getElem_cons_zero, List.setIfInBounds_toArray, List.set_cons_zero, List.set_cons_succ]
                      refine wpAnyH_ready (rs := [11]) (by kernel_rfl) (by simp) ?_
                      refine AllReadyH.cons rfl (fun K hK => ?_) AllReadyH.nil
                      go_simp
                      rw [← unhide hw9]
                      refine hK.out _ _ (unhide hS2) (fun hHeld => ?_)
                      clear hK K
                      try simp only [Act.put, List.getElem_toArray, List.getElem_cons_succ, List.getElem_cons_zero, List.setIfInBounds_toArray, List.set_cons_zero, List.set_cons_succ]
                      refine wpAnyH_done (by kernel_rfl) (NoPanic.normal ?_) _
                      clear hHeld hS0 hS1 hS2 x7 v7 z7 hw9
                      go_upto_region 46 with fail
                      -- Count, Closed
                      obtain ⟨q1, q2, q3, q4⟩ := unhide FA w9 _ _ _ _ _ _ (unhide Q9)
                      obtain ⟨sa, hsa⟩ : ∃ z, z = av9 k := ⟨_, rfl⟩
                      obtain ⟨sk, hsk⟩ : ∃ z, z = kv9 k := ⟨_, rfl⟩
                      obtain ⟨sn, hsn⟩ : ∃ z, z = (qs9 k).length := ⟨_, rfl⟩
                      obtain ⟨sc, hsc⟩ : ∃ z : Bool, z = cl k := ⟨_, rfl⟩
                      rw [← hsa, ← hsn, ← hsk] at q2
                      rw [← hsc] at q3
                      have KD : Hid (G w9 w9.drew ∧ w9.drew.cell? ⟨vb, k, none⟩ = some (.slice sa sn sk) ∧ w9.drew.cell? ⟨w2.heap.size + 1, k, none⟩ = some (.bool sc)) := hide ⟨(G.refl _).drew, (G.refl w9).drew.cell q2, (G.refl w9).drew.cell q3⟩
                      have KC : Hid (∀ p q : World, (G w9 p ∧ p.cell? ⟨vb, k, none⟩ = some (.slice sa sn sk) ∧ p.cell? ⟨w2.heap.size + 1, k, none⟩ = some (.bool sc)) → G p q → (G w9 q ∧ q.cell? ⟨vb, k, none⟩ = some (.slice sa sn sk) ∧ q.cell? ⟨w2.heap.size + 1, k, none⟩ = some (.bool sc))) := hide fun p q hp g => ⟨hp.1.trans g, g.cell hp.2.1, g.cell hp.2.2⟩
                      have K1 : Hid (∀ y, (G w9 y ∧ y.cell? ⟨vb, k, none⟩ = some (.slice sa sn sk) ∧ y.cell? ⟨w2.heap.size + 1, k, none⟩ = some (.bool sc)) → Calls Tryz.prog 17 #[.pointer (some ⟨x.hb, 0, none⟩), .int .i64 a] y fun e w' => e = .returned (.int .i64 (sn : Int)) ∧ G y w') := hide fun y hy => by rw [hsn]; exact p2_count (hide ((unhide Q9).gr hy.1)) (unhide hr) (unhide ha)
                      have K2 : Hid (∀ y, (G w9 y ∧ y.cell? ⟨vb, k, none⟩ = some (.slice sa sn sk) ∧ y.cell? ⟨w2.heap.size + 1, k, none⟩ = some (.bool sc)) → Calls Tryz.prog 15 #[.pointer (some ⟨x.hb, 0, none⟩), .int .i64 a] y fun e w' => e = .returned (.bool sc) ∧ G y w') := hide fun y hy => by
                        have hh := p2_shut (hide ((unhide Q9).gr hy.1)) (unhide hr) (unhide ha)
                        rw [← hsc, unhide hoS] at hh
                        exact hh
                      have hnn : ((sn : Int) != (sn : Int)) = false := by simp
                      have hss : (sc == sc) = true := by simp
                      clear hsa hsk hsn q1 q4 hsc q2 q3
                      go_region_held3 (fun y => G w9 y ∧ y.cell? ⟨vb, k, none⟩ = some (.slice sa sn sk) ∧ y.cell? ⟨w2.heap.size + 1, k, none⟩ = some (.bool sc))
                        (first | assumption | exact unhide KD | exact unhide KC _ _ (by assumption) (by assumption))
                        ((first | (go_at_call 17; refine (unhide K1 _ ?_).mono ?_; assumption; rintro e w10 ⟨rfl, hg10⟩) | (go_at_call 15; refine (unhide K2 _ ?_).mono ?_; assumption; rintro e w11 ⟨rfl, hg11⟩)))
                      all_goals
                        have Q10 := hide ((unhide Q9).gr (((G.refl w9).drew.trans hg10).trans hg11))
                        clear Q9 KD KC K1 K2 hg10 hg11
                        go_wp2_with fail
                        go_roundw
                        case rel => exact ⟨j + 1, _, _, _, _, by first | rw [hwi1, unhide hi1] | rw [unhide hi1], hlt1, Q10⟩
                        case measure => first | (rw [hwi1]; exact unhide DC) | exact unhide DC
                    · go_simp
                      refine hK.out _ (w5.drew.alloc (.cells #[.int .i64 V] 2)) (unhide hS1).2 (fun hHeld => ?_)
                      clear hK K
                      try simp only [Act.put, List.getElem_toArray, List.getElem_cons_succ, List.getElem_cons_zero, List.setIfInBounds_toArray, List.set_cons_zero, List.set_cons_succ]
                      generalize w5.drew.alloc (.cells #[.int .i64 V] 2) = y1 at hS1 hrun hHeld ⊢
                      refine wpAnyH_ready (rs := [5]) (by kernel_rfl) (by simp) ?_
                      refine AllReadyH.cons rfl (fun K hK => ?_) AllReadyH.nil
                      have c5 := (unhide hS1).1
                      go_simp
                      refine hK.out _ _ (unhide hS1).2 (fun hHeld => ?_)
                      clear hK K c5
                      try simp only [Act.put, List.getElem_toArray, List.getElem_cons_succ, List.getElem_cons_zero, List.setIfInBounds_toArray, List.set_cons_zero, List.set_cons_succ]
                      refine wpAnyH_ready (rs := [9]) (by kernel_rfl) (by simp) ?_
                      refine AllReadyH.cons rfl (fun K hK => ?_) AllReadyH.nil
                      refine step_app rfl (.tmp 192) (.tmp 195) 33 rfl _ _ rfl rfl _ _ (unhide hrun) ?_
                      refine hK.out _ _ x7 (fun hHeld => ?_)
                      clear hK K hrun
                      try simp only [Act.put, List.getElem_toArray, List.getElem_cons_succ, List.getElem_cons_zero, List.setIfInBounds_toArray, List.set_cons_zero, List.set_cons_succ]
                      refine wpAnyH_take (i := 10) (v := .pointer (some ⟨vb, k, none⟩)) rfl (by kernel_rfl) (by kernel_rfl) (by kernel_rfl) (fun _ _ _ h => h) (Or.inl ⟨by rfl, fun w hSw => by go_simp⟩) (by assumption) ?_
                      try simp only [Act.put, List.getElem_toArray, List.getElem_cons_succ, List.getElem_cons_zero, List.setIfInBounds_toArray, List.set_cons_zero, List.set_cons_succ]
                      refine wpAnyH_ready (rs := [11]) (by kernel_rfl) (by simp) ?_
                      refine AllReadyH.cons rfl (fun K hK => ?_) AllReadyH.nil
                      go_simp
                      rw [← unhide hw9]
                      refine hK.out _ _ (unhide hS2) (fun hHeld => ?_)
                      clear hK K
                      try simp only [Act.put, List.getElem_toArray, List.getElem_cons_succ, List.getElem_cons_zero, List.setIfInBounds_toArray, List.set_cons_zero, List.set_cons_succ]
                      refine wpAnyH_done (by kernel_rfl) (NoPanic.normal ?_) _
                      clear hHeld hS0 hS1 hS2 x7 v7 z7 hw9
                      go_upto_region 46 with fail
                      -- Count, Closed
                      obtain ⟨q1, q2, q3, q4⟩ := unhide FA w9 _ _ _ _ _ _ (unhide Q9)
                      obtain ⟨sa, hsa⟩ : ∃ z, z = av9 k := ⟨_, rfl⟩
                      obtain ⟨sk, hsk⟩ : ∃ z, z = kv9 k := ⟨_, rfl⟩
                      obtain ⟨sn, hsn⟩ : ∃ z, z = (qs9 k).length := ⟨_, rfl⟩
                      obtain ⟨sc, hsc⟩ : ∃ z : Bool, z = cl k := ⟨_, rfl⟩
                      rw [← hsa, ← hsn, ← hsk] at q2
                      rw [← hsc] at q3
                      have KD : Hid (G w9 w9.drew ∧ w9.drew.cell? ⟨vb, k, none⟩ = some (.slice sa sn sk) ∧ w9.drew.cell? ⟨w2.heap.size + 1, k, none⟩ = some (.bool sc)) := hide ⟨(G.refl _).drew, (G.refl w9).drew.cell q2, (G.refl w9).drew.cell q3⟩
                      have KC : Hid (∀ p q : World, (G w9 p ∧ p.cell? ⟨vb, k, none⟩ = some (.slice sa sn sk) ∧ p.cell? ⟨w2.heap.size + 1, k, none⟩ = some (.bool sc)) → G p q → (G w9 q ∧ q.cell? ⟨vb, k, none⟩ = some (.slice sa sn sk) ∧ q.cell? ⟨w2.heap.size + 1, k, none⟩ = some (.bool sc))) := hide fun p q hp g => ⟨hp.1.trans g, g.cell hp.2.1, g.cell hp.2.2⟩
                      have K1 : Hid (∀ y, (G w9 y ∧ y.cell? ⟨vb, k, none⟩ = some (.slice sa sn sk) ∧ y.cell? ⟨w2.heap.size + 1, k, none⟩ = some (.bool sc)) → Calls Tryz.prog 17 #[.pointer (some ⟨x.hb, 0, none⟩), .int .i64 a] y fun e w' => e = .returned (.int .i64 (sn : Int)) ∧ G y w') := hide fun y hy => by rw [hsn]; exact p2_count (hide ((unhide Q9).gr hy.1)) (unhide hr) (unhide ha)
                      have K2 : Hid (∀ y, (G w9 y ∧ y.cell? ⟨vb, k, none⟩ = some (.slice sa sn sk) ∧ y.cell? ⟨w2.heap.size + 1, k, none⟩ = some (.bool sc)) → Calls Tryz.prog 15 #[.pointer (some ⟨x.hb, 0, none⟩), .int .i64 a] y fun e w' => e = .returned (.bool sc) ∧ G y w') := hide fun y hy => by
                        have hh := p2_shut (hide ((unhide Q9).gr hy.1)) (unhide hr) (unhide ha)
                        rw [← hsc, unhide hoS] at hh
                        exact hh
                      have hnn : ((sn : Int) != (sn : Int)) = false := by simp
                      have hss : (sc == sc) = true := by simp
                      clear hsa hsk hsn q1 q4 hsc q2 q3
                      go_region_held3 (fun y => G w9 y ∧ y.cell? ⟨vb, k, none⟩ = some (.slice sa sn sk) ∧ y.cell? ⟨w2.heap.size + 1, k, none⟩ = some (.bool sc))
                        (first | assumption | exact unhide KD | exact unhide KC _ _ (by assumption) (by assumption))
                        ((first | (go_at_call 17; refine (unhide K1 _ ?_).mono ?_; assumption; rintro e w10 ⟨rfl, hg10⟩) | (go_at_call 15; refine (unhide K2 _ ?_).mono ?_; assumption; rintro e w11 ⟨rfl, hg11⟩)))
                      all_goals
                        have Q10 := hide ((unhide Q9).gr (((G.refl w9).drew.trans hg10).trans hg11))
                        clear Q9 KD KC K1 K2 hg10 hg11
                        go_wp2_with fail
                        go_roundw
                        case rel => exact ⟨j + 1, _, _, _, _, by first | rw [hwi1, unhide hi1] | rw [unhide hi1], hlt1, Q10⟩
                        case measure => first | (rw [hwi1]; exact unhide DC) | exact unhide DC
                · have hok : Hid (okP r a (qs k) (cl k) = false) := hide (by unfold okP; rw [hc, hz2]; simpa using hl')
                  have hl : decide (((qs k).length : Int) < r) = false := by simpa using hl'
                  clear hl' 
                  as_aux_lemma =>
                    replace hoS := hide hoS
                    clear haa
                    have CP : Hid (∀ y', G wb y' → Calls Tryz.prog 13 #[.pointer (some ⟨x.hb, 0, none⟩), .int .i64 a, .int .i64 V, .int .i64 1] y' fun e w' => e = .returned (.bool false) ∧ P2 (⟨w1, x, ao', cap, nv, c9, w2.heap.size, w2.heap.size, w2.heap.size + 1, rs⟩ : Lw) ab vb at_ (qs) qs cl cl av kv w' ∧ w'.cell? ⟨wr.heap.size, 2, none⟩ = some (.int .i64 V)) := hide fun y' g => by
                      have hh := p2_push (hide ((unhide Qb).gr g)) (unhide hr) (unhide ha) V
                      rw [unhide hok] at hh
                      refine hh.mono fun e w' hq => ⟨hq.1, by have := hq.2.1; rw [if_neg (by decide)] at this; exact this, cell_blk (hq.2.2.2 _ (unhide zb).1 (Nat.lt_of_lt_of_le (unhide zb).2 g.size)) (g.cell x2)⟩
                    obtain ⟨sc0, hsc0⟩ : ∃ z : Bool, z = cl k := ⟨_, rfl⟩
                    obtain ⟨sn0, hsn0⟩ : ∃ z : Nat, z = (qs k).length := ⟨_, rfl⟩
                    rw [← hsc0] at f3 hc
                    rw [← hsn0] at f2 hl
                    subst hc
                    replace hsc0 := hide hsc0
                    replace hsn0 := hide hsn0
                    clear hok Qb hz
                    go_upto_region 35 with fail
                    go_quiet (fail)
                    go_wp2_with fail
                    refine (unhide CP _ (by first | exact G.drewN _ _ | exact G.refl _)).mono ?_
                    rintro e w9 ⟨rfl, Q9, x2'⟩
                    replace Q9 := hide Q9
                    clear CP x0 x1 x2 f1 f2 f3 f4
                    clear x2'
                    go_upto_region 46 with fail
                    -- Count, Closed
                    obtain ⟨q1, q2, q3, q4⟩ := unhide FA w9 _ _ _ _ _ _ (unhide Q9)
                    obtain ⟨sa, hsa⟩ : ∃ z, z = av k := ⟨_, rfl⟩
                    obtain ⟨sk, hsk⟩ : ∃ z, z = kv k := ⟨_, rfl⟩
                    obtain ⟨sn, hsn⟩ : ∃ z, z = (qs k).length := ⟨_, rfl⟩
                    obtain ⟨sc, hsc⟩ : ∃ z : Bool, z = cl k := ⟨_, rfl⟩
                    rw [← hsa, ← hsn, ← hsk] at q2
                    rw [← hsc] at q3
                    have KD : Hid (G w9 w9.drew ∧ w9.drew.cell? ⟨vb, k, none⟩ = some (.slice sa sn sk) ∧ w9.drew.cell? ⟨w2.heap.size + 1, k, none⟩ = some (.bool sc)) := hide ⟨(G.refl _).drew, (G.refl w9).drew.cell q2, (G.refl w9).drew.cell q3⟩
                    have KC : Hid (∀ p q : World, (G w9 p ∧ p.cell? ⟨vb, k, none⟩ = some (.slice sa sn sk) ∧ p.cell? ⟨w2.heap.size + 1, k, none⟩ = some (.bool sc)) → G p q → (G w9 q ∧ q.cell? ⟨vb, k, none⟩ = some (.slice sa sn sk) ∧ q.cell? ⟨w2.heap.size + 1, k, none⟩ = some (.bool sc))) := hide fun p q hp g => ⟨hp.1.trans g, g.cell hp.2.1, g.cell hp.2.2⟩
                    have K1 : Hid (∀ y, (G w9 y ∧ y.cell? ⟨vb, k, none⟩ = some (.slice sa sn sk) ∧ y.cell? ⟨w2.heap.size + 1, k, none⟩ = some (.bool sc)) → Calls Tryz.prog 17 #[.pointer (some ⟨x.hb, 0, none⟩), .int .i64 a] y fun e w' => e = .returned (.int .i64 (sn : Int)) ∧ G y w') := hide fun y hy => by rw [hsn]; exact p2_count (hide ((unhide Q9).gr hy.1)) (unhide hr) (unhide ha)
                    have K2 : Hid (∀ y, (G w9 y ∧ y.cell? ⟨vb, k, none⟩ = some (.slice sa sn sk) ∧ y.cell? ⟨w2.heap.size + 1, k, none⟩ = some (.bool sc)) → Calls Tryz.prog 15 #[.pointer (some ⟨x.hb, 0, none⟩), .int .i64 a] y fun e w' => e = .returned (.bool sc) ∧ G y w') := hide fun y hy => by
                      have hh := p2_shut (hide ((unhide Q9).gr hy.1)) (unhide hr) (unhide ha)
                      rw [← hsc, unhide hoS] at hh
                      exact hh
                    have hnn : ((sn : Int) != (sn : Int)) = false := by simp
                    have hss : (sc == sc) = true := by simp
                    clear hsa hsk hsn q1 q4 hsc q2 q3
                    go_region_held3 (fun y => G w9 y ∧ y.cell? ⟨vb, k, none⟩ = some (.slice sa sn sk) ∧ y.cell? ⟨w2.heap.size + 1, k, none⟩ = some (.bool sc))
                      (first | assumption | exact unhide KD | exact unhide KC _ _ (by assumption) (by assumption))
                      ((first | (go_at_call 17; refine (unhide K1 _ ?_).mono ?_; assumption; rintro e w10 ⟨rfl, hg10⟩) | (go_at_call 15; refine (unhide K2 _ ?_).mono ?_; assumption; rintro e w11 ⟨rfl, hg11⟩)))
                    all_goals
                      have Q10 := hide ((unhide Q9).gr (((G.refl w9).drew.trans hg10).trans hg11))
                      clear Q9 KD KC K1 K2 hg10 hg11
                      go_wp2_with fail
                      go_roundw
                      case rel => exact ⟨j + 1, _, _, _, _, by first | rw [hwi1, unhide hi1] | rw [unhide hi1], hlt1, Q10⟩
                      case measure => first | (rw [hwi1]; exact unhide DC) | exact unhide DC
          by_cases h1 : op = 1
          · subst h1
            cases hq0 : qs k with
            | nil =>
              rcases unhide haa with ⟨hz1, hz2, hoS, hz⟩ | ⟨hz1, hz2, hoS, hz⟩
              · as_aux_lemma =>
                  replace hoS := hide hoS
                  clear haa
                  have CP := hide (p2_pop_empty Qb (unhide hr) (unhide ha) hq0)
                  have hl0 : Hid ((qs k).length = 0) := hide (by rw [hq0]; rfl)
                  have h00 : decide ((0 : Int) > 0) = false := by decide
                  clear hq0 Qb hz f1 f2 f3 f4
                  go_upto_region 41 with fail
                  go_wp2_with fail
                  refine (unhide CP).mono ?_
                  rintro e w9 ⟨rfl, Q9⟩
                  replace Q9 := hide Q9
                  obtain ⟨q1, q2, q3, q4⟩ := unhide FA w9 _ _ _ _ _ _ (unhide Q9)
                  rw [unhide hl0] at q2
                  clear CP x0 x1 x2 q1 q3 q4
                  go_upto_region 46 with fail
                  clear q2
                  -- Count, Closed
                  obtain ⟨q1, q2, q3, q4⟩ := unhide FA w9 _ _ _ _ _ _ (unhide Q9)
                  obtain ⟨sa, hsa⟩ : ∃ z, z = av k := ⟨_, rfl⟩
                  obtain ⟨sk, hsk⟩ : ∃ z, z = kv k := ⟨_, rfl⟩
                  obtain ⟨sn, hsn⟩ : ∃ z, z = (qs k).length := ⟨_, rfl⟩
                  obtain ⟨sc, hsc⟩ : ∃ z : Bool, z = cl k := ⟨_, rfl⟩
                  rw [← hsa, ← hsn, ← hsk] at q2
                  rw [← hsc] at q3
                  have KD : Hid (G w9 w9.drew ∧ w9.drew.cell? ⟨vb, k, none⟩ = some (.slice sa sn sk) ∧ w9.drew.cell? ⟨w2.heap.size + 1, k, none⟩ = some (.bool sc)) := hide ⟨(G.refl _).drew, (G.refl w9).drew.cell q2, (G.refl w9).drew.cell q3⟩
                  have KC : Hid (∀ p q : World, (G w9 p ∧ p.cell? ⟨vb, k, none⟩ = some (.slice sa sn sk) ∧ p.cell? ⟨w2.heap.size + 1, k, none⟩ = some (.bool sc)) → G p q → (G w9 q ∧ q.cell? ⟨vb, k, none⟩ = some (.slice sa sn sk) ∧ q.cell? ⟨w2.heap.size + 1, k, none⟩ = some (.bool sc))) := hide fun p q hp g => ⟨hp.1.trans g, g.cell hp.2.1, g.cell hp.2.2⟩
                  have K1 : Hid (∀ y, (G w9 y ∧ y.cell? ⟨vb, k, none⟩ = some (.slice sa sn sk) ∧ y.cell? ⟨w2.heap.size + 1, k, none⟩ = some (.bool sc)) → Calls Tryz.prog 17 #[.pointer (some ⟨x.hb, 0, none⟩), .int .i64 a] y fun e w' => e = .returned (.int .i64 (sn : Int)) ∧ G y w') := hide fun y hy => by rw [hsn]; exact p2_count (hide ((unhide Q9).gr hy.1)) (unhide hr) (unhide ha)
                  have K2 : Hid (∀ y, (G w9 y ∧ y.cell? ⟨vb, k, none⟩ = some (.slice sa sn sk) ∧ y.cell? ⟨w2.heap.size + 1, k, none⟩ = some (.bool sc)) → Calls Tryz.prog 15 #[.pointer (some ⟨x.hb, 0, none⟩), .int .i64 a] y fun e w' => e = .returned (.bool true) ∧ G y w') := hide fun y hy => by
                    have hh := p2_shut (hide ((unhide Q9).gr hy.1)) (unhide hr) (unhide ha)
                    rw [← hsc, unhide hoS] at hh
                    exact hh
                  have hnn : ((sn : Int) != (sn : Int)) = false := by simp
                  have hss : (sc == sc) = true := by simp
                  clear hsa hsk hsn q1 q4 hsc q2 q3
                  refine wp_region_noPanic ?_
                  refine wp_region_held_drew (S := fun y => G w9 y ∧ y.cell? ⟨vb, k, none⟩ = some (.slice sa sn sk) ∧ y.cell? ⟨w2.heap.size + 1, k, none⟩ = some (.bool sc)) (by kernel_rfl) (unhide KD) (fun hHeld => ?_)
                  refine wpAnyH_take (i := 0) (v := .pointer (some ⟨x.hb, 0, none⟩)) rfl (by kernel_rfl) (by kernel_rfl) (by kernel_rfl) (fun _ _ _ h => h) (Or.inl ⟨by rfl, fun w hSw => by obtain ⟨t0, t1, t2⟩ := hSw; go_simp⟩) (by assumption) ?_
                  try simp only [Act.put, List.getElem_toArray, List.getElem_cons_zero, List.setIfInBounds_toArray, List.set_cons_zero, List.set_cons_succ]
                  refine wpAnyH_take (i := 1) (v := .int .i64 a) rfl (by kernel_rfl) (by kernel_rfl) (by kernel_rfl) (fun _ _ _ h => h) (Or.inl ⟨by rfl, fun w hSw => by obtain ⟨t0, t1, t2⟩ := hSw; go_simp⟩) (by assumption) ?_
                  try simp only [Act.put, List.getElem_toArray, List.getElem_cons_succ, List.getElem_cons_zero, List.setIfInBounds_toArray, List.set_cons_zero, List.set_cons_succ]
                  refine wpAnyH_take (i := 3) (v := .slice (some ⟨vb, 0, none⟩) N k9) rfl (by kernel_rfl) (by kernel_rfl) (by kernel_rfl) (fun _ _ _ h => h) (Or.inl ⟨by rfl, fun w hSw => by obtain ⟨t0, t1, t2⟩ := hSw; go_simp⟩) (by assumption) ?_
                  try simp only [Act.put, List.getElem_toArray, List.getElem_cons_succ, List.getElem_cons_zero, List.setIfInBounds_toArray, List.set_cons_zero, List.set_cons_succ]
                  refine wpAnyH_take (i := 4) (v := .int .i64 (k : Int)) rfl (by kernel_rfl) (by kernel_rfl) (by kernel_rfl) (fun _ _ _ h => h) (Or.inl ⟨by rfl, fun w hSw => by obtain ⟨t0, t1, t2⟩ := hSw; go_simp⟩) (by assumption) ?_
                  try simp only [Act.put, List.getElem_toArray, List.getElem_cons_succ, List.getElem_cons_zero, List.setIfInBounds_toArray, List.set_cons_zero, List.set_cons_succ]
                  refine wpAnyH_take (i := 5) (v := .pointer (some ⟨vb, k, none⟩)) rfl (by kernel_rfl) (by kernel_rfl) (by kernel_rfl) (fun _ _ _ h => h) (Or.inl ⟨by rfl, fun w hSw => by obtain ⟨t0, t1, t2⟩ := hSw; go_simp⟩) (by assumption) ?_
                  try simp only [Act.put, List.getElem_toArray, List.getElem_cons_succ, List.getElem_cons_zero, List.setIfInBounds_toArray, List.set_cons_zero, List.set_cons_succ]
                  refine wpAnyH_take (i := 6) (v := .slice sa sn sk) rfl (by kernel_rfl) (by kernel_rfl) (by kernel_rfl) (fun _ _ _ h => h) (Or.inl ⟨by rfl, fun w hSw => by obtain ⟨t0, t1, t2⟩ := hSw; go_simp⟩) (by assumption) ?_
                  try simp only [Act.put, List.getElem_toArray, List.getElem_cons_succ, List.getElem_cons_zero, List.setIfInBounds_toArray, List.set_cons_zero, List.set_cons_succ]
                  refine wpAnyH_take (i := 7) (v := .int .i64 (sn : Int)) rfl (by kernel_rfl) (by kernel_rfl) (by kernel_rfl) (fun _ _ _ h => h) (Or.inl ⟨by rfl, fun w hSw => by obtain ⟨t0, t1, t2⟩ := hSw; go_simp⟩) (by assumption) ?_
                  try simp only [Act.put, List.getElem_toArray, List.getElem_cons_succ, List.getElem_cons_zero, List.setIfInBounds_toArray, List.set_cons_zero, List.set_cons_succ]
                  refine wpAnyH_ready (rs := [2]) (by kernel_rfl) (by simp) ?_
                  refine AllReadyH.cons rfl (fun K hK => ?_) AllReadyH.nil
                  go_simp
                  refine (unhide K1 _ hHeld).mono ?_
                  rintro e w10 ⟨rfl, hg10⟩
                  go_wp2_with fail
                  refine hK.out _ _ (unhide KC _ _ hHeld hg10) (fun hHeld => ?_)
                  clear hK K
                  try simp only [Act.put, List.getElem_toArray, List.getElem_cons_succ, List.getElem_cons_zero, List.setIfInBounds_toArray, List.set_cons_zero, List.set_cons_succ]
                  refine wpAnyH_take (i := 8) (v := .bool false) rfl (by kernel_rfl) (by kernel_rfl) (by kernel_rfl) (fun _ _ _ h => h) (Or.inl ⟨by rfl, fun w hSw => by obtain ⟨t0, t1, t2⟩ := hSw; go_simp⟩) (by assumption) ?_
                  try simp only [Act.put, List.getElem_toArray, List.getElem_cons_succ, List.getElem_cons_zero, List.setIfInBounds_toArray, List.set_cons_zero, List.set_cons_succ]
                  refine wpAnyH_take (i := 9) (v := .bool false) rfl (by kernel_rfl) (by kernel_rfl) (by kernel_rfl) (fun _ _ _ h => h) (Or.inl ⟨by rfl, fun w hSw => by obtain ⟨t0, t1, t2⟩ := hSw; go_simp⟩) (by assumption) ?_
                  try simp only [Act.put, List.getElem_toArray, List.getElem_cons_succ, List.getElem_cons_zero, List.setIfInBounds_toArray, List.set_cons_zero, List.set_cons_succ]
                  refine wpAnyH_take (i := 10) (v := .pointer (some ⟨x.hb, 0, none⟩)) rfl (by kernel_rfl) (by kernel_rfl) (by kernel_rfl) (fun _ _ _ h => h) (Or.inl ⟨by rfl, fun w hSw => by obtain ⟨t0, t1, t2⟩ := hSw; go_simp⟩) (by assumption) ?_
                  try simp only [Act.put, List.getElem_toArray, List.getElem_cons_succ, List.getElem_cons_zero, List.setIfInBounds_toArray, List.set_cons_zero, List.set_cons_succ]
                  refine wpAnyH_take (i := 11) (v := .int .i64 a) rfl (by kernel_rfl) (by kernel_rfl) (by kernel_rfl) (fun _ _ _ h => h) (Or.inl ⟨by rfl, fun w hSw => by obtain ⟨t0, t1, t2⟩ := hSw; go_simp⟩) (by assumption) ?_
                  try simp only [Act.put, List.getElem_toArray, List.getElem_cons_succ, List.getElem_cons_zero, List.setIfInBounds_toArray, List.set_cons_zero, List.set_cons_succ]
                  refine wpAnyH_take (i := 13) (v := .int .i64 a) rfl (by kernel_rfl) (by kernel_rfl) (by kernel_rfl) (fun _ _ _ h => h) (Or.inl ⟨by rfl, fun w hSw => by obtain ⟨t0, t1, t2⟩ := hSw; go_simp⟩) (by assumption) ?_
                  try simp only [Act.put, List.getElem_toArray, List.getElem_cons_succ, List.getElem_cons_zero, List.setIfInBounds_toArray, List.set_cons_zero, List.set_cons_succ]
                  refine wpAnyH_take (i := 14) (v := .bool true) rfl (by kernel_rfl) (by kernel_rfl) (by kernel_rfl) (fun _ _ _ h => h) (Or.inl ⟨by rfl, fun w hSw => by obtain ⟨t0, t1, t2⟩ := hSw; go_simp⟩) (by assumption) ?_
                  try simp only [Act.put, List.getElem_toArray, List.getElem_cons_succ, List.getElem_cons_zero, List.setIfInBounds_toArray, List.set_cons_zero, List.set_cons_succ]
                  refine wpAnyH_ready (rs := [12]) (by kernel_rfl) (by simp) ?_
                  refine AllReadyH.cons rfl (fun K hK => ?_) AllReadyH.nil
                  go_simp
                  refine (unhide K2 _ hHeld).mono ?_
                  rintro e w11 ⟨rfl, hg11⟩
                  go_wp2_with fail
                  refine hK.out _ _ (unhide KC _ _ hHeld hg11) (fun hHeld => ?_)
                  clear hK K
                  try simp only [Act.put, List.getElem_toArray, List.getElem_cons_succ, List.getElem_cons_zero, List.setIfInBounds_toArray, List.set_cons_zero, List.set_cons_succ]
                  refine wpAnyH_take (i := 15) (v := .bool true) rfl (by kernel_rfl) (by kernel_rfl) (by kernel_rfl) (fun _ _ _ h => h) (Or.inl ⟨by rfl, fun w hSw => by obtain ⟨t0, t1, t2⟩ := hSw; go_simp⟩) (by assumption) ?_
                  try simp only [Act.put, List.getElem_toArray, List.getElem_cons_succ, List.getElem_cons_zero, List.setIfInBounds_toArray, List.set_cons_zero, List.set_cons_succ]
                  refine wpAnyH_take (i := 16) (v := undef) rfl (by kernel_rfl) (by kernel_rfl) (by kernel_rfl) (fun _ _ _ h => h) (Or.inr ⟨by rfl, rfl⟩) (by assumption) ?_
                  try simp only [Act.put, List.getElem_toArray, List.getElem_cons_succ, List.getElem_cons_zero, List.setIfInBounds_toArray, List.set_cons_zero, List.set_cons_succ]
                  refine wpAnyH_take (i := 17) (v := undef) rfl (by kernel_rfl) (by kernel_rfl) (by kernel_rfl) (fun _ _ _ h => h) (Or.inr ⟨by rfl, rfl⟩) (by assumption) ?_
                  try simp only [Act.put, List.getElem_toArray, List.getElem_cons_succ, List.getElem_cons_zero, List.setIfInBounds_toArray, List.set_cons_zero, List.set_cons_succ]
                  refine wpAnyH_take (i := 18) (v := undef) rfl (by kernel_rfl) (by kernel_rfl) (by kernel_rfl) (fun _ _ _ h => h) (Or.inr ⟨by rfl, rfl⟩) (by assumption) ?_
                  try simp only [Act.put, List.getElem_toArray, List.getElem_cons_succ, List.getElem_cons_zero, List.setIfInBounds_toArray, List.set_cons_zero, List.set_cons_succ]
                  refine wpAnyH_take (i := 19) (v := undef) rfl (by kernel_rfl) (by kernel_rfl) (by kernel_rfl) (fun _ _ _ h => h) (Or.inr ⟨by rfl, rfl⟩) (by assumption) ?_
                  try simp only [Act.put, List.getElem_toArray, List.getElem_cons_succ, List.getElem_cons_zero, List.setIfInBounds_toArray, List.set_cons_zero, List.set_cons_succ]
                  refine wpAnyH_take (i := 20) (v := .bool true) rfl (by kernel_rfl) (by kernel_rfl) (by kernel_rfl) (fun _ _ _ h => h) (Or.inl ⟨by rfl, fun w hSw => by obtain ⟨t0, t1, t2⟩ := hSw; go_simp⟩) (by assumption) ?_
                  try simp only [Act.put, List.getElem_toArray, List.getElem_cons_succ, List.getElem_cons_zero, List.setIfInBounds_toArray, List.set_cons_zero, List.set_cons_succ]
                  refine wpAnyH_take (i := 21) (v := .bool false) rfl (by kernel_rfl) (by kernel_rfl) (by kernel_rfl) (fun _ _ _ h => h) (Or.inl ⟨by rfl, fun w hSw => by obtain ⟨t0, t1, t2⟩ := hSw; go_simp⟩) (by assumption) ?_
                  try simp only [Act.put, List.getElem_toArray, List.getElem_cons_succ, List.getElem_cons_zero, List.setIfInBounds_toArray, List.set_cons_zero, List.set_cons_succ]
                  refine wpAnyH_take (i := 22) (v := .bool false) rfl (by kernel_rfl) (by kernel_rfl) (by kernel_rfl) (fun _ _ _ h => h) (Or.inl ⟨by rfl, fun w hSw => by obtain ⟨t0, t1, t2⟩ := hSw; go_simp⟩) (by assumption) ?_
                  try simp only [Act.put, List.getElem_toArray, List.getElem_cons_succ, List.getElem_cons_zero, List.setIfInBounds_toArray, List.set_cons_zero, List.set_cons_succ]
                  refine wpAnyH_done (by kernel_rfl) (NoPanic.normal ?_) _
                  all_goals
                    have Q10 := hide ((unhide Q9).gr (((G.refl w9).drew.trans hg10).trans hg11))
                    clear Q9 KD KC K1 K2 hg10 hg11
                    go_wp2_with fail
                    go_roundw
                    case rel => exact ⟨j + 1, _, _, _, _, by first | rw [hwi1, unhide hi1] | rw [unhide hi1], hlt1, Q10⟩
                    case measure => first | (rw [hwi1]; exact unhide DC) | exact unhide DC
              · as_aux_lemma =>
                  replace hoS := hide hoS
                  clear haa
                  have CP := hide (p2_pop_empty Qb (unhide hr) (unhide ha) hq0)
                  have hl0 : Hid ((qs k).length = 0) := hide (by rw [hq0]; rfl)
                  have h00 : decide ((0 : Int) > 0) = false := by decide
                  clear hq0 Qb hz f1 f2 f3 f4
                  go_upto_region 41 with fail
                  go_wp2_with fail
                  refine (unhide CP).mono ?_
                  rintro e w9 ⟨rfl, Q9⟩
                  replace Q9 := hide Q9
                  obtain ⟨q1, q2, q3, q4⟩ := unhide FA w9 _ _ _ _ _ _ (unhide Q9)
                  rw [unhide hl0] at q2
                  clear CP x0 x1 x2 q1 q3 q4
                  go_upto_region 46 with fail
                  clear q2
                  -- Count, Closed
                  obtain ⟨q1, q2, q3, q4⟩ := unhide FA w9 _ _ _ _ _ _ (unhide Q9)
                  obtain ⟨sa, hsa⟩ : ∃ z, z = av k := ⟨_, rfl⟩
                  obtain ⟨sk, hsk⟩ : ∃ z, z = kv k := ⟨_, rfl⟩
                  obtain ⟨sn, hsn⟩ : ∃ z, z = (qs k).length := ⟨_, rfl⟩
                  obtain ⟨sc, hsc⟩ : ∃ z : Bool, z = cl k := ⟨_, rfl⟩
                  rw [← hsa, ← hsn, ← hsk] at q2
                  rw [← hsc] at q3
                  have KD : Hid (G w9 w9.drew ∧ w9.drew.cell? ⟨vb, k, none⟩ = some (.slice sa sn sk) ∧ w9.drew.cell? ⟨w2.heap.size + 1, k, none⟩ = some (.bool sc)) := hide ⟨(G.refl _).drew, (G.refl w9).drew.cell q2, (G.refl w9).drew.cell q3⟩
                  have KC : Hid (∀ p q : World, (G w9 p ∧ p.cell? ⟨vb, k, none⟩ = some (.slice sa sn sk) ∧ p.cell? ⟨w2.heap.size + 1, k, none⟩ = some (.bool sc)) → G p q → (G w9 q ∧ q.cell? ⟨vb, k, none⟩ = some (.slice sa sn sk) ∧ q.cell? ⟨w2.heap.size + 1, k, none⟩ = some (.bool sc))) := hide fun p q hp g => ⟨hp.1.trans g, g.cell hp.2.1, g.cell hp.2.2⟩
                  have K1 : Hid (∀ y, (G w9 y ∧ y.cell? ⟨vb, k, none⟩ = some (.slice sa sn sk) ∧ y.cell? ⟨w2.heap.size + 1, k, none⟩ = some (.bool sc)) → Calls Tryz.prog 17 #[.pointer (some ⟨x.hb, 0, none⟩), .int .i64 a] y fun e w' => e = .returned (.int .i64 (sn : Int)) ∧ G y w') := hide fun y hy => by rw [hsn]; exact p2_count (hide ((unhide Q9).gr hy.1)) (unhide hr) (unhide ha)
                  have K2 : Hid (∀ y, (G w9 y ∧ y.cell? ⟨vb, k, none⟩ = some (.slice sa sn sk) ∧ y.cell? ⟨w2.heap.size + 1, k, none⟩ = some (.bool sc)) → Calls Tryz.prog 15 #[.pointer (some ⟨x.hb, 0, none⟩), .int .i64 a] y fun e w' => e = .returned (.bool sc) ∧ G y w') := hide fun y hy => by
                    have hh := p2_shut (hide ((unhide Q9).gr hy.1)) (unhide hr) (unhide ha)
                    rw [← hsc, unhide hoS] at hh
                    exact hh
                  have hnn : ((sn : Int) != (sn : Int)) = false := by simp
                  have hss : (sc == sc) = true := by simp
                  clear hsa hsk hsn q1 q4 hsc q2 q3
                  go_region_held3 (fun y => G w9 y ∧ y.cell? ⟨vb, k, none⟩ = some (.slice sa sn sk) ∧ y.cell? ⟨w2.heap.size + 1, k, none⟩ = some (.bool sc))
                    (first | assumption | exact unhide KD | exact unhide KC _ _ (by assumption) (by assumption))
                    ((first | (go_at_call 17; refine (unhide K1 _ ?_).mono ?_; assumption; rintro e w10 ⟨rfl, hg10⟩) | (go_at_call 15; refine (unhide K2 _ ?_).mono ?_; assumption; rintro e w11 ⟨rfl, hg11⟩)))
                  all_goals
                    have Q10 := hide ((unhide Q9).gr (((G.refl w9).drew.trans hg10).trans hg11))
                    clear Q9 KD KC K1 K2 hg10 hg11
                    go_wp2_with fail
                    go_roundw
                    case rel => exact ⟨j + 1, _, _, _, _, by first | rw [hwi1, unhide hi1] | rw [unhide hi1], hlt1, Q10⟩
                    case measure => first | (rw [hwi1]; exact unhide DC) | exact unhide DC
            | cons v0 q =>
              rcases unhide haa with ⟨hz1, hz2, hoS, hz⟩ | ⟨hz1, hz2, hoS, hz⟩
              · exact absurd hz (by rcases unhide hgd with g | g; exact g.2.2.1; exact absurd (hq0.symm.trans g.2.2) (by simp))
              · as_aux_lemma =>
                  replace hoS := hide hoS
                  clear haa
                  have CP := hide (p2_pop Qb (unhide hr) (unhide ha) hq0)
                  replace hq0 := hide hq0
                  clear Qb hz f1 f2 f3 f4
                  go_upto_region 41 with fail
                  go_wp2_with fail
                  refine (unhide CP).mono ?_
                  rintro e w5 ⟨rfl, Q5⟩
                  obtain ⟨g, off, hg, q1, q2, q3, q4, Q9⟩ := Q5.cut (unhide hkl) (unhide hq0)
                  obtain ⟨sn0, hsn0⟩ : ∃ z, z = q.length := ⟨_, rfl⟩
                  obtain ⟨sk0, hsk0⟩ : ∃ z, z = kv k := ⟨_, rfl⟩
                  rw [← hsn0, ← hsk0] at q3
                  rw [← hsn0, ← hsk0] at Q9
                  rw [← hsn0, ← hsk0] at q2
                  clear CP x0 x1 x2 Q5 hg hsn0
                  have hvv : (v0 != v0) = false := by simp
                  have hm0 : decide (((sn0 + 1 : Nat) : Int) > 0) = true := by first | (simp; done) | (simp; omega)
                  have hm1 : (0 : Int) < ((sn0 + 1 : Nat) : Int) := by omega
                  have hm2 : (1 : Int) ≤ ((sn0 + 1 : Nat) : Int) := by omega
                  have hm3 : (0 : Int) < (sn0 : Int) + 1 := by omega
                  have hm4 : decide ((sn0 : Int) + 1 > 0) = true := by first | (simp; done) | (simp; omega)
                  have hm5 : (1 : Int) ≤ (sn0 : Int) + 1 := by omega
                  have hm6 : decide (0 < (sn0 : Int) + 1) = true := by first | (simp; done) | (simp; omega)
                  replace Q9 := hide Q9
                  by_cases hk1 : sk0 = 1
                  · rw [hk1] at q3 Q9 q2
                    have hs0 : sn0 = 0 := by omega
                    subst hs0
                    rw [if_pos rfl] at Q9
                    clear hm0 hm1 hm2 hm3 hm4 hm5 hm6 hk1 hsk0
                    obtain ⟨w9, hw9⟩ : ∃ z, z = w5.setCell ⟨vb, k, none⟩ (.slice (some ⟨g, off, none⟩) 0 0) := ⟨_, rfl⟩
                    obtain ⟨qs9, av9, kv9, Q9⟩ : ∃ qs9 av9 kv9, Hid (P2 (⟨w1, x, ao', cap, nv, c9, w2.heap.size, w2.heap.size, w2.heap.size + 1, rs⟩ : Lw) ab vb at_ qs9 qs9 cl cl av9 kv9 w9) := ⟨_, _, _, by rw [hw9]; exact Q9⟩
                    replace hw9 := hide hw9
                    go_upto_region 46 with fail
                    rw [← unhide hw9]
                    clear hw9 q1 q2 q3 q4
                    -- Count, Closed
                    obtain ⟨q1, q2, q3, q4⟩ := unhide FA w9 _ _ _ _ _ _ (unhide Q9)
                    obtain ⟨sa, hsa⟩ : ∃ z, z = av9 k := ⟨_, rfl⟩
                    obtain ⟨sk, hsk⟩ : ∃ z, z = kv9 k := ⟨_, rfl⟩
                    obtain ⟨sn, hsn⟩ : ∃ z, z = (qs9 k).length := ⟨_, rfl⟩
                    obtain ⟨sc, hsc⟩ : ∃ z : Bool, z = cl k := ⟨_, rfl⟩
                    rw [← hsa, ← hsn, ← hsk] at q2
                    rw [← hsc] at q3
                    have KD : Hid (G w9 w9.drew ∧ w9.drew.cell? ⟨vb, k, none⟩ = some (.slice sa sn sk) ∧ w9.drew.cell? ⟨w2.heap.size + 1, k, none⟩ = some (.bool sc)) := hide ⟨(G.refl _).drew, (G.refl w9).drew.cell q2, (G.refl w9).drew.cell q3⟩
                    have KC : Hid (∀ p q : World, (G w9 p ∧ p.cell? ⟨vb, k, none⟩ = some (.slice sa sn sk) ∧ p.cell? ⟨w2.heap.size + 1, k, none⟩ = some (.bool sc)) → G p q → (G w9 q ∧ q.cell? ⟨vb, k, none⟩ = some (.slice sa sn sk) ∧ q.cell? ⟨w2.heap.size + 1, k, none⟩ = some (.bool sc))) := hide fun p q hp g => ⟨hp.1.trans g, g.cell hp.2.1, g.cell hp.2.2⟩
                    have K1 : Hid (∀ y, (G w9 y ∧ y.cell? ⟨vb, k, none⟩ = some (.slice sa sn sk) ∧ y.cell? ⟨w2.heap.size + 1, k, none⟩ = some (.bool sc)) → Calls Tryz.prog 17 #[.pointer (some ⟨x.hb, 0, none⟩), .int .i64 a] y fun e w' => e = .returned (.int .i64 (sn : Int)) ∧ G y w') := hide fun y hy => by rw [hsn]; exact p2_count (hide ((unhide Q9).gr hy.1)) (unhide hr) (unhide ha)
                    have K2 : Hid (∀ y, (G w9 y ∧ y.cell? ⟨vb, k, none⟩ = some (.slice sa sn sk) ∧ y.cell? ⟨w2.heap.size + 1, k, none⟩ = some (.bool sc)) → Calls Tryz.prog 15 #[.pointer (some ⟨x.hb, 0, none⟩), .int .i64 a] y fun e w' => e = .returned (.bool sc) ∧ G y w') := hide fun y hy => by
                      have hh := p2_shut (hide ((unhide Q9).gr hy.1)) (unhide hr) (unhide ha)
                      rw [← hsc, unhide hoS] at hh
                      exact hh
                    have hnn : ((sn : Int) != (sn : Int)) = false := by simp
                    have hss : (sc == sc) = true := by simp
                    clear hsa hsk hsn q1 q4 hsc q2 q3
                    go_region_held3 (fun y => G w9 y ∧ y.cell? ⟨vb, k, none⟩ = some (.slice sa sn sk) ∧ y.cell? ⟨w2.heap.size + 1, k, none⟩ = some (.bool sc))
                      (first | assumption | exact unhide KD | exact unhide KC _ _ (by assumption) (by assumption))
                      ((first | (go_at_call 17; refine (unhide K1 _ ?_).mono ?_; assumption; rintro e w10 ⟨rfl, hg10⟩) | (go_at_call 15; refine (unhide K2 _ ?_).mono ?_; assumption; rintro e w11 ⟨rfl, hg11⟩)))
                    all_goals
                      have Q10 := hide ((unhide Q9).gr (((G.refl w9).drew.trans hg10).trans hg11))
                      clear Q9 KD KC K1 K2 hg10 hg11
                      go_wp2_with fail
                      go_roundw
                      case rel => exact ⟨j + 1, _, _, _, _, by first | rw [hwi1, unhide hi1] | rw [unhide hi1], hlt1, Q10⟩
                      case measure => first | (rw [hwi1]; exact unhide DC) | exact unhide DC
                  · rw [if_neg hk1] at Q9
                    have hk2 : (sk0 = 1) = False := eq_false hk1
                    replace hsk0 := hide hsk0
                    obtain ⟨w9, hw9⟩ : ∃ z, z = w5.setCell ⟨vb, k, none⟩ (.slice (some ⟨g, off + 1, none⟩) sn0 (sk0 - 1)) := ⟨_, rfl⟩
                    obtain ⟨qs9, av9, kv9, Q9⟩ : ∃ qs9 av9 kv9, Hid (P2 (⟨w1, x, ao', cap, nv, c9, w2.heap.size, w2.heap.size, w2.heap.size + 1, rs⟩ : Lw) ab vb at_ qs9 qs9 cl cl av9 kv9 w9) := ⟨_, _, _, by rw [hw9]; exact Q9⟩
                    replace hw9 := hide hw9
                    go_upto_region 46 with fail
                    rw [← unhide hw9]
                    clear hw9 q1 q2 q3 q4 hm0 hm1 hm2 hm3 hm4 hm5 hm6 hk1 hk2
                    -- Count, Closed
                    obtain ⟨q1, q2, q3, q4⟩ := unhide FA w9 _ _ _ _ _ _ (unhide Q9)
                    obtain ⟨sa, hsa⟩ : ∃ z, z = av9 k := ⟨_, rfl⟩
                    obtain ⟨sk, hsk⟩ : ∃ z, z = kv9 k := ⟨_, rfl⟩
                    obtain ⟨sn, hsn⟩ : ∃ z, z = (qs9 k).length := ⟨_, rfl⟩
                    obtain ⟨sc, hsc⟩ : ∃ z : Bool, z = cl k := ⟨_, rfl⟩
                    rw [← hsa, ← hsn, ← hsk] at q2
                    rw [← hsc] at q3
                    have KD : Hid (G w9 w9.drew ∧ w9.drew.cell? ⟨vb, k, none⟩ = some (.slice sa sn sk) ∧ w9.drew.cell? ⟨w2.heap.size + 1, k, none⟩ = some (.bool sc)) := hide ⟨(G.refl _).drew, (G.refl w9).drew.cell q2, (G.refl w9).drew.cell q3⟩
                    have KC : Hid (∀ p q : World, (G w9 p ∧ p.cell? ⟨vb, k, none⟩ = some (.slice sa sn sk) ∧ p.cell? ⟨w2.heap.size + 1, k, none⟩ = some (.bool sc)) → G p q → (G w9 q ∧ q.cell? ⟨vb, k, none⟩ = some (.slice sa sn sk) ∧ q.cell? ⟨w2.heap.size + 1, k, none⟩ = some (.bool sc))) := hide fun p q hp g => ⟨hp.1.trans g, g.cell hp.2.1, g.cell hp.2.2⟩
                    have K1 : Hid (∀ y, (G w9 y ∧ y.cell? ⟨vb, k, none⟩ = some (.slice sa sn sk) ∧ y.cell? ⟨w2.heap.size + 1, k, none⟩ = some (.bool sc)) → Calls Tryz.prog 17 #[.pointer (some ⟨x.hb, 0, none⟩), .int .i64 a] y fun e w' => e = .returned (.int .i64 (sn : Int)) ∧ G y w') := hide fun y hy => by rw [hsn]; exact p2_count (hide ((unhide Q9).gr hy.1)) (unhide hr) (unhide ha)
                    have K2 : Hid (∀ y, (G w9 y ∧ y.cell? ⟨vb, k, none⟩ = some (.slice sa sn sk) ∧ y.cell? ⟨w2.heap.size + 1, k, none⟩ = some (.bool sc)) → Calls Tryz.prog 15 #[.pointer (some ⟨x.hb, 0, none⟩), .int .i64 a] y fun e w' => e = .returned (.bool sc) ∧ G y w') := hide fun y hy => by
                      have hh := p2_shut (hide ((unhide Q9).gr hy.1)) (unhide hr) (unhide ha)
                      rw [← hsc, unhide hoS] at hh
                      exact hh
                    have hnn : ((sn : Int) != (sn : Int)) = false := by simp
                    have hss : (sc == sc) = true := by simp
                    clear hsa hsk hsn q1 q4 hsc q2 q3
                    go_region_held3 (fun y => G w9 y ∧ y.cell? ⟨vb, k, none⟩ = some (.slice sa sn sk) ∧ y.cell? ⟨w2.heap.size + 1, k, none⟩ = some (.bool sc))
                      (first | assumption | exact unhide KD | exact unhide KC _ _ (by assumption) (by assumption))
                      ((first | (go_at_call 17; refine (unhide K1 _ ?_).mono ?_; assumption; rintro e w10 ⟨rfl, hg10⟩) | (go_at_call 15; refine (unhide K2 _ ?_).mono ?_; assumption; rintro e w11 ⟨rfl, hg11⟩)))
                    all_goals
                      have Q10 := hide ((unhide Q9).gr (((G.refl w9).drew.trans hg10).trans hg11))
                      clear Q9 KD KC K1 K2 hg10 hg11
                      go_wp2_with fail
                      go_roundw
                      case rel => exact ⟨j + 1, _, _, _, _, by first | rw [hwi1, unhide hi1] | rw [unhide hi1], hlt1, Q10⟩
                      case measure => first | (rw [hwi1]; exact unhide DC) | exact unhide DC
          have n0 : (op == 0) = false := by simpa using h0
          have n1 : (op == 1) = false := by simpa using h1
          clear h0 h1
          rcases unhide haa with ⟨hz1, hz2, hoS, hz⟩ | ⟨hz1, hz2, hoS, hz⟩
          · have hok : okC a (cl k) = false := by unfold okC; rw [hz2]; rfl
            as_aux_lemma =>
              replace hoS := hide hoS
              clear haa
              have CP : Hid (Calls Tryz.prog 14 #[.pointer (some ⟨x.hb, 0, none⟩), .int .i64 a] wb fun e w' => e = .returned (.bool false) ∧ P2 (⟨w1, x, ao', cap, nv, c9, w2.heap.size, w2.heap.size, w2.heap.size + 1, rs⟩ : Lw) ab vb at_ qs qs (at1 cl k true) cl av kv w') := hide (by have hh := p2_close Qb (unhide hr) (unhide ha); rw [hok] at hh; exact hh)
              clear hok Qb hz f1 f2 f3 f4
              go_upto_region 31 with fail
              go_wp2_with fail
              refine (unhide CP).mono ?_
              rintro e w5 ⟨rfl, Q5⟩
              replace Q5 := hide Q5
              obtain ⟨q1, q2, q3, q4⟩ := unhide FA w5 _ _ _ _ _ _ (unhide Q5)
              have q5 : w5.frozen? ⟨w2.heap.size + 1, k, none⟩ = false := (unhide Q5).cfz k
              have Q9 := hide ((unhide Q5).mark (unhide hkl))
              obtain ⟨cl9, hcl9⟩ : ∃ z, z = at1 cl k true := ⟨_, rfl⟩
              rw [← hcl9] at Q9
              obtain ⟨w9, hw9⟩ : ∃ z, z = w5.setCell ⟨w2.heap.size + 1, k, none⟩ (.bool true) := ⟨_, rfl⟩
              replace Q9 : Hid (P2 (⟨w1, x, ao', cap, nv, c9, w2.heap.size, w2.heap.size, w2.heap.size + 1, rs⟩ : Lw) ab vb at_ qs qs cl9 cl9 av kv w9) := by rw [hw9]; exact Q9
              clear CP x0 x1 x2 q1 q2 q4 hcl9 Q5
              go_upto_region 46 with fail
              rw [← hw9]
              clear hw9 q3 q5
              -- Count, Closed
              obtain ⟨q1, q2, q3, q4⟩ := unhide FA w9 _ _ _ _ _ _ (unhide Q9)
              obtain ⟨sa, hsa⟩ : ∃ z, z = av k := ⟨_, rfl⟩
              obtain ⟨sk, hsk⟩ : ∃ z, z = kv k := ⟨_, rfl⟩
              obtain ⟨sn, hsn⟩ : ∃ z, z = (qs k).length := ⟨_, rfl⟩
              obtain ⟨sc, hsc⟩ : ∃ z : Bool, z = cl9 k := ⟨_, rfl⟩
              rw [← hsa, ← hsn, ← hsk] at q2
              rw [← hsc] at q3
              have KD : Hid (G w9 w9.drew ∧ w9.drew.cell? ⟨vb, k, none⟩ = some (.slice sa sn sk) ∧ w9.drew.cell? ⟨w2.heap.size + 1, k, none⟩ = some (.bool sc)) := hide ⟨(G.refl _).drew, (G.refl w9).drew.cell q2, (G.refl w9).drew.cell q3⟩
              have KC : Hid (∀ p q : World, (G w9 p ∧ p.cell? ⟨vb, k, none⟩ = some (.slice sa sn sk) ∧ p.cell? ⟨w2.heap.size + 1, k, none⟩ = some (.bool sc)) → G p q → (G w9 q ∧ q.cell? ⟨vb, k, none⟩ = some (.slice sa sn sk) ∧ q.cell? ⟨w2.heap.size + 1, k, none⟩ = some (.bool sc))) := hide fun p q hp g => ⟨hp.1.trans g, g.cell hp.2.1, g.cell hp.2.2⟩
              have K1 : Hid (∀ y, (G w9 y ∧ y.cell? ⟨vb, k, none⟩ = some (.slice sa sn sk) ∧ y.cell? ⟨w2.heap.size + 1, k, none⟩ = some (.bool sc)) → Calls Tryz.prog 17 #[.pointer (some ⟨x.hb, 0, none⟩), .int .i64 a] y fun e w' => e = .returned (.int .i64 (sn : Int)) ∧ G y w') := hide fun y hy => by rw [hsn]; exact p2_count (hide ((unhide Q9).gr hy.1)) (unhide hr) (unhide ha)
              have K2 : Hid (∀ y, (G w9 y ∧ y.cell? ⟨vb, k, none⟩ = some (.slice sa sn sk) ∧ y.cell? ⟨w2.heap.size + 1, k, none⟩ = some (.bool sc)) → Calls Tryz.prog 15 #[.pointer (some ⟨x.hb, 0, none⟩), .int .i64 a] y fun e w' => e = .returned (.bool true) ∧ G y w') := hide fun y hy => by
                have hh := p2_shut (hide ((unhide Q9).gr hy.1)) (unhide hr) (unhide ha)
                rw [← hsc, unhide hoS] at hh
                exact hh
              have hnn : ((sn : Int) != (sn : Int)) = false := by simp
              have hss : (sc == sc) = true := by simp
              clear hsa hsk hsn q1 q4 hsc q2 q3
              refine wp_region_noPanic ?_
              refine wp_region_held_drew (S := fun y => G w9 y ∧ y.cell? ⟨vb, k, none⟩ = some (.slice sa sn sk) ∧ y.cell? ⟨w2.heap.size + 1, k, none⟩ = some (.bool sc)) (by kernel_rfl) (unhide KD) (fun hHeld => ?_)
              refine wpAnyH_take (i := 0) (v := .pointer (some ⟨x.hb, 0, none⟩)) rfl (by kernel_rfl) (by kernel_rfl) (by kernel_rfl) (fun _ _ _ h => h) (Or.inl ⟨by rfl, fun w hSw => by obtain ⟨t0, t1, t2⟩ := hSw; go_simp⟩) (by assumption) ?_
              try simp only [Act.put, List.getElem_toArray, List.getElem_cons_zero, List.setIfInBounds_toArray, List.set_cons_zero, List.set_cons_succ]
              refine wpAnyH_take (i := 1) (v := .int .i64 a) rfl (by kernel_rfl) (by kernel_rfl) (by kernel_rfl) (fun _ _ _ h => h) (Or.inl ⟨by rfl, fun w hSw => by obtain ⟨t0, t1, t2⟩ := hSw; go_simp⟩) (by assumption) ?_
              try simp only [Act.put, List.getElem_toArray, List.getElem_cons_succ, List.getElem_cons_zero, List.setIfInBounds_toArray, List.set_cons_zero, List.set_cons_succ]
              refine wpAnyH_take (i := 3) (v := .slice (some ⟨vb, 0, none⟩) N k9) rfl (by kernel_rfl) (by kernel_rfl) (by kernel_rfl) (fun _ _ _ h => h) (Or.inl ⟨by rfl, fun w hSw => by obtain ⟨t0, t1, t2⟩ := hSw; go_simp⟩) (by assumption) ?_
              try simp only [Act.put, List.getElem_toArray, List.getElem_cons_succ, List.getElem_cons_zero, List.setIfInBounds_toArray, List.set_cons_zero, List.set_cons_succ]
              refine wpAnyH_take (i := 4) (v := .int .i64 (k : Int)) rfl (by kernel_rfl) (by kernel_rfl) (by kernel_rfl) (fun _ _ _ h => h) (Or.inl ⟨by rfl, fun w hSw => by obtain ⟨t0, t1, t2⟩ := hSw; go_simp⟩) (by assumption) ?_
              try simp only [Act.put, List.getElem_toArray, List.getElem_cons_succ, List.getElem_cons_zero, List.setIfInBounds_toArray, List.set_cons_zero, List.set_cons_succ]
              refine wpAnyH_take (i := 5) (v := .pointer (some ⟨vb, k, none⟩)) rfl (by kernel_rfl) (by kernel_rfl) (by kernel_rfl) (fun _ _ _ h => h) (Or.inl ⟨by rfl, fun w hSw => by obtain ⟨t0, t1, t2⟩ := hSw; go_simp⟩) (by assumption) ?_
              try simp only [Act.put, List.getElem_toArray, List.getElem_cons_succ, List.getElem_cons_zero, List.setIfInBounds_toArray, List.set_cons_zero, List.set_cons_succ]
              refine wpAnyH_take (i := 6) (v := .slice sa sn sk) rfl (by kernel_rfl) (by kernel_rfl) (by kernel_rfl) (fun _ _ _ h => h) (Or.inl ⟨by rfl, fun w hSw => by obtain ⟨t0, t1, t2⟩ := hSw; go_simp⟩) (by assumption) ?_
              try simp only [Act.put, List.getElem_toArray, List.getElem_cons_succ, List.getElem_cons_zero, List.setIfInBounds_toArray, List.set_cons_zero, List.set_cons_succ]
              refine wpAnyH_take (i := 7) (v := .int .i64 (sn : Int)) rfl (by kernel_rfl) (by kernel_rfl) (by kernel_rfl) (fun _ _ _ h => h) (Or.inl ⟨by rfl, fun w hSw => by obtain ⟨t0, t1, t2⟩ := hSw; go_simp⟩) (by assumption) ?_
              try simp only [Act.put, List.getElem_toArray, List.getElem_cons_succ, List.getElem_cons_zero, List.setIfInBounds_toArray, List.set_cons_zero, List.set_cons_succ]
              refine wpAnyH_ready (rs := [2]) (by kernel_rfl) (by simp) ?_
              refine AllReadyH.cons rfl (fun K hK => ?_) AllReadyH.nil
              go_simp
              refine (unhide K1 _ hHeld).mono ?_
              rintro e w10 ⟨rfl, hg10⟩
              go_wp2_with fail
              refine hK.out _ _ (unhide KC _ _ hHeld hg10) (fun hHeld => ?_)
              clear hK K
              try simp only [Act.put, List.getElem_toArray, List.getElem_cons_succ, List.getElem_cons_zero, List.setIfInBounds_toArray, List.set_cons_zero, List.set_cons_succ]
              refine wpAnyH_take (i := 8) (v := .bool false) rfl (by kernel_rfl) (by kernel_rfl) (by kernel_rfl) (fun _ _ _ h => h) (Or.inl ⟨by rfl, fun w hSw => by obtain ⟨t0, t1, t2⟩ := hSw; go_simp⟩) (by assumption) ?_
              try simp only [Act.put, List.getElem_toArray, List.getElem_cons_succ, List.getElem_cons_zero, List.setIfInBounds_toArray, List.set_cons_zero, List.set_cons_succ]
              refine wpAnyH_take (i := 9) (v := .bool false) rfl (by kernel_rfl) (by kernel_rfl) (by kernel_rfl) (fun _ _ _ h => h) (Or.inl ⟨by rfl, fun w hSw => by obtain ⟨t0, t1, t2⟩ := hSw; go_simp⟩) (by assumption) ?_
              try simp only [Act.put, List.getElem_toArray, List.getElem_cons_succ, List.getElem_cons_zero, List.setIfInBounds_toArray, List.set_cons_zero, List.set_cons_succ]
              refine wpAnyH_take (i := 10) (v := .pointer (some ⟨x.hb, 0, none⟩)) rfl (by kernel_rfl) (by kernel_rfl) (by kernel_rfl) (fun _ _ _ h => h) (Or.inl ⟨by rfl, fun w hSw => by obtain ⟨t0, t1, t2⟩ := hSw; go_simp⟩) (by assumption) ?_
              try simp only [Act.put, List.getElem_toArray, List.getElem_cons_succ, List.getElem_cons_zero, List.setIfInBounds_toArray, List.set_cons_zero, List.set_cons_succ]
              refine wpAnyH_take (i := 11) (v := .int .i64 a) rfl (by kernel_rfl) (by kernel_rfl) (by kernel_rfl) (fun _ _ _ h => h) (Or.inl ⟨by rfl, fun w hSw => by obtain ⟨t0, t1, t2⟩ := hSw; go_simp⟩) (by assumption) ?_
              try simp only [Act.put, List.getElem_toArray, List.getElem_cons_succ, List.getElem_cons_zero, List.setIfInBounds_toArray, List.set_cons_zero, List.set_cons_succ]
              refine wpAnyH_take (i := 13) (v := .int .i64 a) rfl (by kernel_rfl) (by kernel_rfl) (by kernel_rfl) (fun _ _ _ h => h) (Or.inl ⟨by rfl, fun w hSw => by obtain ⟨t0, t1, t2⟩ := hSw; go_simp⟩) (by assumption) ?_
              try simp only [Act.put, List.getElem_toArray, List.getElem_cons_succ, List.getElem_cons_zero, List.setIfInBounds_toArray, List.set_cons_zero, List.set_cons_succ]
              refine wpAnyH_take (i := 14) (v := .bool true) rfl (by kernel_rfl) (by kernel_rfl) (by kernel_rfl) (fun _ _ _ h => h) (Or.inl ⟨by rfl, fun w hSw => by obtain ⟨t0, t1, t2⟩ := hSw; go_simp⟩) (by assumption) ?_
              try simp only [Act.put, List.getElem_toArray, List.getElem_cons_succ, List.getElem_cons_zero, List.setIfInBounds_toArray, List.set_cons_zero, List.set_cons_succ]
              refine wpAnyH_ready (rs := [12]) (by kernel_rfl) (by simp) ?_
              refine AllReadyH.cons rfl (fun K hK => ?_) AllReadyH.nil
              go_simp
              refine (unhide K2 _ hHeld).mono ?_
              rintro e w11 ⟨rfl, hg11⟩
              go_wp2_with fail
              refine hK.out _ _ (unhide KC _ _ hHeld hg11) (fun hHeld => ?_)
              clear hK K
              try simp only [Act.put, List.getElem_toArray, List.getElem_cons_succ, List.getElem_cons_zero, List.setIfInBounds_toArray, List.set_cons_zero, List.set_cons_succ]
              refine wpAnyH_take (i := 15) (v := .bool true) rfl (by kernel_rfl) (by kernel_rfl) (by kernel_rfl) (fun _ _ _ h => h) (Or.inl ⟨by rfl, fun w hSw => by obtain ⟨t0, t1, t2⟩ := hSw; go_simp⟩) (by assumption) ?_
              try simp only [Act.put, List.getElem_toArray, List.getElem_cons_succ, List.getElem_cons_zero, List.setIfInBounds_toArray, List.set_cons_zero, List.set_cons_succ]
              refine wpAnyH_take (i := 16) (v := undef) rfl (by kernel_rfl) (by kernel_rfl) (by kernel_rfl) (fun _ _ _ h => h) (Or.inr ⟨by rfl, rfl⟩) (by assumption) ?_
              try simp only [Act.put, List.getElem_toArray, List.getElem_cons_succ, List.getElem_cons_zero, List.setIfInBounds_toArray, List.set_cons_zero, List.set_cons_succ]
              refine wpAnyH_take (i := 17) (v := undef) rfl (by kernel_rfl) (by kernel_rfl) (by kernel_rfl) (fun _ _ _ h => h) (Or.inr ⟨by rfl, rfl⟩) (by assumption) ?_
              try simp only [Act.put, List.getElem_toArray, List.getElem_cons_succ, List.getElem_cons_zero, List.setIfInBounds_toArray, List.set_cons_zero, List.set_cons_succ]
              refine wpAnyH_take (i := 18) (v := undef) rfl (by kernel_rfl) (by kernel_rfl) (by kernel_rfl) (fun _ _ _ h => h) (Or.inr ⟨by rfl, rfl⟩) (by assumption) ?_
              try simp only [Act.put, List.getElem_toArray, List.getElem_cons_succ, List.getElem_cons_zero, List.setIfInBounds_toArray, List.set_cons_zero, List.set_cons_succ]
              refine wpAnyH_take (i := 19) (v := undef) rfl (by kernel_rfl) (by kernel_rfl) (by kernel_rfl) (fun _ _ _ h => h) (Or.inr ⟨by rfl, rfl⟩) (by assumption) ?_
              try simp only [Act.put, List.getElem_toArray, List.getElem_cons_succ, List.getElem_cons_zero, List.setIfInBounds_toArray, List.set_cons_zero, List.set_cons_succ]
              refine wpAnyH_take (i := 20) (v := .bool true) rfl (by kernel_rfl) (by kernel_rfl) (by kernel_rfl) (fun _ _ _ h => h) (Or.inl ⟨by rfl, fun w hSw => by obtain ⟨t0, t1, t2⟩ := hSw; go_simp⟩) (by assumption) ?_
              try simp only [Act.put, List.getElem_toArray, List.getElem_cons_succ, List.getElem_cons_zero, List.setIfInBounds_toArray, List.set_cons_zero, List.set_cons_succ]
              refine wpAnyH_take (i := 21) (v := .bool false) rfl (by kernel_rfl) (by kernel_rfl) (by kernel_rfl) (fun _ _ _ h => h) (Or.inl ⟨by rfl, fun w hSw => by obtain ⟨t0, t1, t2⟩ := hSw; go_simp⟩) (by assumption) ?_
              try simp only [Act.put, List.getElem_toArray, List.getElem_cons_succ, List.getElem_cons_zero, List.setIfInBounds_toArray, List.set_cons_zero, List.set_cons_succ]
              refine wpAnyH_take (i := 22) (v := .bool false) rfl (by kernel_rfl) (by kernel_rfl) (by kernel_rfl) (fun _ _ _ h => h) (Or.inl ⟨by rfl, fun w hSw => by obtain ⟨t0, t1, t2⟩ := hSw; go_simp⟩) (by assumption) ?_
              try simp only [Act.put, List.getElem_toArray, List.getElem_cons_succ, List.getElem_cons_zero, List.setIfInBounds_toArray, List.set_cons_zero, List.set_cons_succ]
              refine wpAnyH_done (by kernel_rfl) (NoPanic.normal ?_) _
              all_goals
                have Q10 := hide ((unhide Q9).gr (((G.refl w9).drew.trans hg10).trans hg11))
                clear Q9 KD KC K1 K2 hg10 hg11
                go_wp2_with fail
                go_roundw
                case rel => exact ⟨j + 1, _, _, _, _, by first | rw [hwi1, unhide hi1] | rw [unhide hi1], hlt1, Q10⟩
                case measure => first | (rw [hwi1]; exact unhide DC) | exact unhide DC
          · rcases Bool.eq_false_or_eq_true (cl k) with hc | hc
            · have hok : okC a (cl k) = false := by unfold okC; rw [hz2, hc]; rfl
              as_aux_lemma =>
                replace hoS := hide hoS
                clear haa
                have CP : Hid (Calls Tryz.prog 14 #[.pointer (some ⟨x.hb, 0, none⟩), .int .i64 a] wb fun e w' => e = .returned (.bool false) ∧ P2 (⟨w1, x, ao', cap, nv, c9, w2.heap.size, w2.heap.size, w2.heap.size + 1, rs⟩ : Lw) ab vb at_ qs qs (at1 cl k true) cl av kv w') := hide (by have hh := p2_close Qb (unhide hr) (unhide ha); rw [hok] at hh; exact hh)
                clear hok Qb hz f1 f2 f3 f4
                go_upto_region 31 with fail
                go_wp2_with fail
                refine (unhide CP).mono ?_
                rintro e w5 ⟨rfl, Q5⟩
                replace Q5 := hide Q5
                obtain ⟨q1, q2, q3, q4⟩ := unhide FA w5 _ _ _ _ _ _ (unhide Q5)
                have q5 : w5.frozen? ⟨w2.heap.size + 1, k, none⟩ = false := (unhide Q5).cfz k
                rw [hc] at q3
                have Q9 := hide ((unhide Q5).mark (unhide hkl))
                obtain ⟨cl9, hcl9⟩ : ∃ z, z = at1 cl k true := ⟨_, rfl⟩
                rw [← hcl9] at Q9
                obtain ⟨w9, hw9⟩ : ∃ z, z = w5.setCell ⟨w2.heap.size + 1, k, none⟩ (.bool true) := ⟨_, rfl⟩
                replace Q9 : Hid (P2 (⟨w1, x, ao', cap, nv, c9, w2.heap.size, w2.heap.size, w2.heap.size + 1, rs⟩ : Lw) ab vb at_ qs qs cl9 cl9 av kv w9) := by rw [hw9]; exact Q9
                clear CP x0 x1 x2 q1 q2 q4 hcl9 Q5
                go_upto_region 46 with fail
                rw [← hw9]
                clear hw9 q3 q5
                -- Count, Closed
                obtain ⟨q1, q2, q3, q4⟩ := unhide FA w9 _ _ _ _ _ _ (unhide Q9)
                obtain ⟨sa, hsa⟩ : ∃ z, z = av k := ⟨_, rfl⟩
                obtain ⟨sk, hsk⟩ : ∃ z, z = kv k := ⟨_, rfl⟩
                obtain ⟨sn, hsn⟩ : ∃ z, z = (qs k).length := ⟨_, rfl⟩
                obtain ⟨sc, hsc⟩ : ∃ z : Bool, z = cl9 k := ⟨_, rfl⟩
                rw [← hsa, ← hsn, ← hsk] at q2
                rw [← hsc] at q3
                have KD : Hid (G w9 w9.drew ∧ w9.drew.cell? ⟨vb, k, none⟩ = some (.slice sa sn sk) ∧ w9.drew.cell? ⟨w2.heap.size + 1, k, none⟩ = some (.bool sc)) := hide ⟨(G.refl _).drew, (G.refl w9).drew.cell q2, (G.refl w9).drew.cell q3⟩
                have KC : Hid (∀ p q : World, (G w9 p ∧ p.cell? ⟨vb, k, none⟩ = some (.slice sa sn sk) ∧ p.cell? ⟨w2.heap.size + 1, k, none⟩ = some (.bool sc)) → G p q → (G w9 q ∧ q.cell? ⟨vb, k, none⟩ = some (.slice sa sn sk) ∧ q.cell? ⟨w2.heap.size + 1, k, none⟩ = some (.bool sc))) := hide fun p q hp g => ⟨hp.1.trans g, g.cell hp.2.1, g.cell hp.2.2⟩
                have K1 : Hid (∀ y, (G w9 y ∧ y.cell? ⟨vb, k, none⟩ = some (.slice sa sn sk) ∧ y.cell? ⟨w2.heap.size + 1, k, none⟩ = some (.bool sc)) → Calls Tryz.prog 17 #[.pointer (some ⟨x.hb, 0, none⟩), .int .i64 a] y fun e w' => e = .returned (.int .i64 (sn : Int)) ∧ G y w') := hide fun y hy => by rw [hsn]; exact p2_count (hide ((unhide Q9).gr hy.1)) (unhide hr) (unhide ha)
                have K2 : Hid (∀ y, (G w9 y ∧ y.cell? ⟨vb, k, none⟩ = some (.slice sa sn sk) ∧ y.cell? ⟨w2.heap.size + 1, k, none⟩ = some (.bool sc)) → Calls Tryz.prog 15 #[.pointer (some ⟨x.hb, 0, none⟩), .int .i64 a] y fun e w' => e = .returned (.bool sc) ∧ G y w') := hide fun y hy => by
                  have hh := p2_shut (hide ((unhide Q9).gr hy.1)) (unhide hr) (unhide ha)
                  rw [← hsc, unhide hoS] at hh
                  exact hh
                have hnn : ((sn : Int) != (sn : Int)) = false := by simp
                have hss : (sc == sc) = true := by simp
                clear hsa hsk hsn q1 q4 hsc q2 q3
                go_region_held3 (fun y => G w9 y ∧ y.cell? ⟨vb, k, none⟩ = some (.slice sa sn sk) ∧ y.cell? ⟨w2.heap.size + 1, k, none⟩ = some (.bool sc))
                  (first | assumption | exact unhide KD | exact unhide KC _ _ (by assumption) (by assumption))
                  ((first | (go_at_call 17; refine (unhide K1 _ ?_).mono ?_; assumption; rintro e w10 ⟨rfl, hg10⟩) | (go_at_call 15; refine (unhide K2 _ ?_).mono ?_; assumption; rintro e w11 ⟨rfl, hg11⟩)))
                all_goals
                  have Q10 := hide ((unhide Q9).gr (((G.refl w9).drew.trans hg10).trans hg11))
                  clear Q9 KD KC K1 K2 hg10 hg11
                  go_wp2_with fail
                  go_roundw
                  case rel => exact ⟨j + 1, _, _, _, _, by first | rw [hwi1, unhide hi1] | rw [unhide hi1], hlt1, Q10⟩
                  case measure => first | (rw [hwi1]; exact unhide DC) | exact unhide DC
            · have hok : okC a (cl k) = true := by unfold okC; rw [hz2, hc]; rfl
              as_aux_lemma =>
                replace hoS := hide hoS
                clear haa
                have CP : Hid (Calls Tryz.prog 14 #[.pointer (some ⟨x.hb, 0, none⟩), .int .i64 a] wb fun e w' => e = .returned (.bool true) ∧ P2 (⟨w1, x, ao', cap, nv, c9, w2.heap.size, w2.heap.size, w2.heap.size + 1, rs⟩ : Lw) ab vb at_ qs qs (at1 cl k true) cl av kv w') := hide (by have hh := p2_close Qb (unhide hr) (unhide ha); rw [hok] at hh; exact hh)
                clear hok Qb hz f1 f2 f3 f4
                go_upto_region 31 with fail
                go_wp2_with fail
                refine (unhide CP).mono ?_
                rintro e w5 ⟨rfl, Q5⟩
                replace Q5 := hide Q5
                obtain ⟨q1, q2, q3, q4⟩ := unhide FA w5 _ _ _ _ _ _ (unhide Q5)
                have q5 : w5.frozen? ⟨w2.heap.size + 1, k, none⟩ = false := (unhide Q5).cfz k
                rw [hc] at q3
                have Q9 := hide ((unhide Q5).mark (unhide hkl))
                obtain ⟨cl9, hcl9⟩ : ∃ z, z = at1 cl k true := ⟨_, rfl⟩
                rw [← hcl9] at Q9
                obtain ⟨w9, hw9⟩ : ∃ z, z = w5.setCell ⟨w2.heap.size + 1, k, none⟩ (.bool true) := ⟨_, rfl⟩
                replace Q9 : Hid (P2 (⟨w1, x, ao', cap, nv, c9, w2.heap.size, w2.heap.size, w2.heap.size + 1, rs⟩ : Lw) ab vb at_ qs qs cl9 cl9 av kv w9) := by rw [hw9]; exact Q9
                clear CP x0 x1 x2 q1 q2 q4 hcl9 Q5
                go_upto_region 46 with fail
                rw [← hw9]
                clear hw9 q3 q5
                -- Count, Closed
                obtain ⟨q1, q2, q3, q4⟩ := unhide FA w9 _ _ _ _ _ _ (unhide Q9)
                obtain ⟨sa, hsa⟩ : ∃ z, z = av k := ⟨_, rfl⟩
                obtain ⟨sk, hsk⟩ : ∃ z, z = kv k := ⟨_, rfl⟩
                obtain ⟨sn, hsn⟩ : ∃ z, z = (qs k).length := ⟨_, rfl⟩
                obtain ⟨sc, hsc⟩ : ∃ z : Bool, z = cl9 k := ⟨_, rfl⟩
                rw [← hsa, ← hsn, ← hsk] at q2
                rw [← hsc] at q3
                have KD : Hid (G w9 w9.drew ∧ w9.drew.cell? ⟨vb, k, none⟩ = some (.slice sa sn sk) ∧ w9.drew.cell? ⟨w2.heap.size + 1, k, none⟩ = some (.bool sc)) := hide ⟨(G.refl _).drew, (G.refl w9).drew.cell q2, (G.refl w9).drew.cell q3⟩
                have KC : Hid (∀ p q : World, (G w9 p ∧ p.cell? ⟨vb, k, none⟩ = some (.slice sa sn sk) ∧ p.cell? ⟨w2.heap.size + 1, k, none⟩ = some (.bool sc)) → G p q → (G w9 q ∧ q.cell? ⟨vb, k, none⟩ = some (.slice sa sn sk) ∧ q.cell? ⟨w2.heap.size + 1, k, none⟩ = some (.bool sc))) := hide fun p q hp g => ⟨hp.1.trans g, g.cell hp.2.1, g.cell hp.2.2⟩
                have K1 : Hid (∀ y, (G w9 y ∧ y.cell? ⟨vb, k, none⟩ = some (.slice sa sn sk) ∧ y.cell? ⟨w2.heap.size + 1, k, none⟩ = some (.bool sc)) → Calls Tryz.prog 17 #[.pointer (some ⟨x.hb, 0, none⟩), .int .i64 a] y fun e w' => e = .returned (.int .i64 (sn : Int)) ∧ G y w') := hide fun y hy => by rw [hsn]; exact p2_count (hide ((unhide Q9).gr hy.1)) (unhide hr) (unhide ha)
                have K2 : Hid (∀ y, (G w9 y ∧ y.cell? ⟨vb, k, none⟩ = some (.slice sa sn sk) ∧ y.cell? ⟨w2.heap.size + 1, k, none⟩ = some (.bool sc)) → Calls Tryz.prog 15 #[.pointer (some ⟨x.hb, 0, none⟩), .int .i64 a] y fun e w' => e = .returned (.bool sc) ∧ G y w') := hide fun y hy => by
                  have hh := p2_shut (hide ((unhide Q9).gr hy.1)) (unhide hr) (unhide ha)
                  rw [← hsc, unhide hoS] at hh
                  exact hh
                have hnn : ((sn : Int) != (sn : Int)) = false := by simp
                have hss : (sc == sc) = true := by simp
                clear hsa hsk hsn q1 q4 hsc q2 q3
                go_region_held3 (fun y => G w9 y ∧ y.cell? ⟨vb, k, none⟩ = some (.slice sa sn sk) ∧ y.cell? ⟨w2.heap.size + 1, k, none⟩ = some (.bool sc))
                  (first | assumption | exact unhide KD | exact unhide KC _ _ (by assumption) (by assumption))
                  ((first | (go_at_call 17; refine (unhide K1 _ ?_).mono ?_; assumption; rintro e w10 ⟨rfl, hg10⟩) | (go_at_call 15; refine (unhide K2 _ ?_).mono ?_; assumption; rintro e w11 ⟨rfl, hg11⟩)))
                all_goals
                  have Q10 := hide ((unhide Q9).gr (((G.refl w9).drew.trans hg10).trans hg11))
                  clear Q9 KD KC K1 K2 hg10 hg11
                  go_wp2_with fail
                  go_roundw
                  case rel => exact ⟨j + 1, _, _, _, _, by first | rw [hwi1, unhide hi1] | rw [unhide hi1], hlt1, Q10⟩
                  case measure => first | (rw [hwi1]; exact unhide DC) | exact unhide DC
    · have hlt' : i < N := Nat.lt_of_le_of_ne (unhide hiN) hi
      have hlt : (i : Int) < (N : Int) := Int.ofNat_lt.2 hlt'
      obtain ⟨i1, hwi1, hi1, DC⟩ := cp_idx hlt' (unhide hN8)
      replace hi1 := hide hi1
      replace DC := hide DC
      have hi1000 : Hid (i ≤ 1000) := hide (by have := unhide hN8; omega)
      have hlA : Hid ((ivs at_).length = i) := hide (by rw [ivs_len, unhide hli])
      have hlA1 : Hid (∀ v, (ivs (at_ ++ [v])).length = i + 1) := hide (fun v => by rw [ivs_len, List.length_append, List.length_singleton, unhide hli])
      have hlV : Hid ((nils i).length = i) := hide (nils_len i)
      have hlV1 : Hid ((nils (i + 1)).length = i + 1) := hide (nils_len (i + 1))
      have hlt1 : Hid (i + 1 ≤ N) := hide hlt'
      obtain ⟨r, hr⟩ : ∃ r, rs[i]? = some r := ⟨rs[i]'(by rw [unhide hN]; exact hlt'), List.getElem?_eq_getElem _⟩
      have cr := unhide RS wr (unhide P).below i r hr
      have hr' : (⟨w1, x, ao', cap, nv, c9, w2.heap.size, w2.heap.size, w2.heap.size + 1, rs⟩ : Lw).rs[at_.length]? = some r := by rw [unhide hli]; exact hr
      clear hi
      by_cases hg : 0 ≤ r ∧ r ≤ 59
      · obtain ⟨R, rfl⟩ : ∃ R : Nat, r = R := ⟨r.toNat, by omega⟩
        have hR59 : R ≤ 59 := by omega
        have e0 : decide ((R : Int) < 0) = false := by simp
        have e59 : decide ((59 : Int) < (R : Int)) = false := by simp; omega
        have hRR : ((R : Int) != (R : Int)) = false := by simp
        have CM := hide (p_make P R hr' hR59 (by rw [unhide hli]; have := unhide hN8; omega))
        have CRm : Hid (∀ y v, PG (⟨w1, x, ao', cap, nv, c9, w2.heap.size, w2.heap.size, w2.heap.size + 1, rs⟩ : Lw) (at_ ++ [v]) (.slice a8 i k8) (.slice a9 i k9) (.slice a5 i k5) (ivs at_) (nils i) (ivs at_) y → Calls Tryz.prog 16 #[.pointer (some ⟨x.hb, 0, none⟩), .int .i64 v] y fun e w' => e = .returned (.int .i64 (R : Int)) ∧ G y w') := hide fun y v hy => p_room (hide hy) (k := at_.length) R hr' (by simp) hR59
        have hrc : Hid (∀ y : World, Below w1.heap.size w1 y → y.cell? ⟨rb, ro + i, none⟩ = some (.int .i64 (R : Int))) := hide fun y b => unhide RS y b i _ hr
        clear hg hr hr' hR59 P hlt'
        go_wp2_with fail
        refine (unhide CM _).mono ?_
        rintro e w5 ⟨v, rfl, P5⟩
        have c5 := unhide hrc w5 P5.below
        have KD : Hid (G w5 w5.drew ∧ w5.drew.cell? ⟨rb, ro + i, none⟩ = some (.int .i64 (R : Int))) := hide ⟨(G.refl _).drew, (G.refl w5).drew.cell c5⟩
        have KC : Hid (∀ a b : World, (G w5 a ∧ a.cell? ⟨rb, ro + i, none⟩ = some (.int .i64 (R : Int))) → G a b → (G w5 b ∧ b.cell? ⟨rb, ro + i, none⟩ = some (.int .i64 (R : Int)))) := hide fun a b ha g => ⟨ha.1.trans g, g.cell ha.2⟩
        have CR5 : Hid (∀ y, (G w5 y ∧ y.cell? ⟨rb, ro + i, none⟩ = some (.int .i64 (R : Int))) → Calls Tryz.prog 16 #[.pointer (some ⟨x.hb, 0, none⟩), .int .i64 v] y fun e w' => e = .returned (.int .i64 (R : Int)) ∧ G y w') := hide fun y hy => unhide CRm y v (P5.gr hy.1)
        replace P5 := hide P5
        clear CM CRm hrc cr
        go_upto_region 19 with fail
        go_region_held3 (fun y => G w5 y ∧ y.cell? ⟨rb, ro + i, none⟩ = some (.int .i64 (R : Int)))
          (first | assumption | exact unhide KD | exact unhide KC _ _ (by assumption) (by assumption))
          ((first | (go_at_call 16; refine (unhide CR5 _ ?_).mono ?_; assumption; rintro e w6 ⟨rfl, hg6⟩)))
        all_goals
          have P6 := hide ((unhide P5).gr ((G.refl w5).drew.trans hg6))
          clear P5 KD KC CR5 hg6
          obtain ⟨va', w7, hrA, P7⟩ := (unhide P6).appA (by rw [unhide hlA]; exact unhide hi1000) v
          obtain ⟨a8', k8', hva⟩ := P7.shA
          rw [← ivs_app, unhide hlA1 v] at hva
          subst hva
          obtain ⟨vv', w8, hrV, P8⟩ := P7.appV (by rw [unhide hlV]; exact unhide hi1000)
          obtain ⟨a9', k9', hvv⟩ := P8.shV
          rw [← nils_succ, unhide hlV1] at hvv
          subst hvv
          obtain ⟨vr', w9, hrR, ⟨a5', k5', hvr⟩, ⟨q1, q2⟩, P9⟩ := P8.appR (by rw [unhide hlA]; exact unhide hi1000) v
          rw [unhide hlA] at hvr
          subst hvr
          have c8 : w8.cell? ⟨w2.heap.size, 0, none⟩ = some (.slice a5 i k5) := P8.cellR.1
          have z8 : w2.heap.size < w8.heap.size := P8.cellR.2.2
          have q1' : w9.cell? ⟨w2.heap.size, 0, none⟩ = some (.slice a5 i k5) := q1
          have q2' : w9.frozen? ⟨w2.heap.size, 0, none⟩ = false := q2
          rw [← ivs_app, ← nils_succ] at P9
          replace P9 := hide P9
          clear P6 P7 P8 q1 q2
          go_upto_region 22 with (at_builtin; refine wpl_aph rfl (.tmp 101) (.tmp 103) 33 rfl _ _ rfl rfl _ _ hrA ?_)
          clear hrA
          go_upto_region 23 with (at_builtin; refine wpl_aph rfl (.tmp 105) (.tmp 106) 43 rfl _ _ rfl rfl _ _ hrV ?_)
          clear hrV
          go_wp2_with (at_builtin; refine wpl_aph rfl (.tmp 112) (.tmp 114) 33 rfl _ _ rfl rfl _ _ hrR ?_)
          go_roundw
          case rel => exact ⟨i + 1, at_ ++ [v], a8', k8', a9', k9', a5', k5', rfl, rfl, by first | rw [hwi1, unhide hi1] | rw [unhide hi1], hide (by rw [List.length_append, List.length_singleton, unhide hli]), hide (unhide hlt1), P9⟩
          case measure => first | (rw [hwi1]; exact unhide DC) | exact unhide DC
      · have hbad : r < 0 ∨ 59 < r := by omega
        have CM := hide (fun (k : Int) (rv : Value) => c_make_size wr x.hb k r rv hbad)
        have P6 := hide ((unhide P).skip hr' hg)
        obtain ⟨v, hv⟩ : ∃ v : Int, v = 0 := ⟨_, rfl⟩
        have hv0 : (v != 0) = false := by rw [hv]; rfl
        clear hg hr hr' P hlt'
        by_cases hneg : r < 0
        · rw [← hv] at P6 CM
          clear hbad hv
          go_wp2_with fail
          refine (unhide CM _ _).mono ?_
          rintro e w5 ⟨rfl, hw5⟩
          rw [hw5]
          clear hw5 CM w5
          go_upto_region 21 with fail
          obtain ⟨va', w7, hrA, P7⟩ := (unhide P6).appA (by rw [unhide hlA]; exact unhide hi1000) v
          obtain ⟨a8', k8', hva⟩ := P7.shA
          rw [← ivs_app, unhide hlA1 v] at hva
          subst hva
          obtain ⟨vv', w8, hrV, P8⟩ := P7.appV (by rw [unhide hlV]; exact unhide hi1000)
          obtain ⟨a9', k9', hvv⟩ := P8.shV
          rw [← nils_succ, unhide hlV1] at hvv
          subst hvv
          obtain ⟨vr', w9, hrR, ⟨a5', k5', hvr⟩, ⟨q1, q2⟩, P9⟩ := P8.appR (by rw [unhide hlA]; exact unhide hi1000) v
          rw [unhide hlA] at hvr
          subst hvr
          have c8 : w8.cell? ⟨w2.heap.size, 0, none⟩ = some (.slice a5 i k5) := P8.cellR.1
          have z8 : w2.heap.size < w8.heap.size := P8.cellR.2.2
          have q1' : w9.cell? ⟨w2.heap.size, 0, none⟩ = some (.slice a5 i k5) := q1
          have q2' : w9.frozen? ⟨w2.heap.size, 0, none⟩ = false := q2
          rw [← ivs_app, ← nils_succ] at P9
          replace P9 := hide P9
          clear P6 P7 P8 q1 q2
          go_upto_region 22 with (at_builtin; refine wpl_aph rfl (.tmp 101) (.tmp 103) 33 rfl _ _ rfl rfl _ _ hrA ?_)
          clear hrA
          go_upto_region 23 with (at_builtin; refine wpl_aph rfl (.tmp 105) (.tmp 106) 43 rfl _ _ rfl rfl _ _ hrV ?_)
          clear hrV
          go_wp2_with (at_builtin; refine wpl_aph rfl (.tmp 112) (.tmp 114) 33 rfl _ _ rfl rfl _ _ hrR ?_)
          go_roundw
          case rel => exact ⟨i + 1, at_ ++ [v], a8', k8', a9', k9', a5', k5', rfl, rfl, by first | rw [hwi1, unhide hi1] | rw [unhide hi1], hide (by rw [List.length_append, List.length_singleton, unhide hli]), hide (unhide hlt1), P9⟩
          case measure => first | (rw [hwi1]; exact unhide DC) | exact unhide DC
        · have hgt : 59 < r := by omega
          have dn : decide (r < 0) = false := by simp; omega
          rw [← hv] at P6 CM
          clear hbad hv hneg
          go_wp2_with fail
          refine (unhide CM _ _).mono ?_
          rintro e w5 ⟨rfl, hw5⟩
          rw [hw5]
          clear hw5 CM w5
          go_upto_region 21 with fail
          obtain ⟨va', w7, hrA, P7⟩ := (unhide P6).appA (by rw [unhide hlA]; exact unhide hi1000) v
          obtain ⟨a8', k8', hva⟩ := P7.shA
          rw [← ivs_app, unhide hlA1 v] at hva
          subst hva
          obtain ⟨vv', w8, hrV, P8⟩ := P7.appV (by rw [unhide hlV]; exact unhide hi1000)
          obtain ⟨a9', k9', hvv⟩ := P8.shV
          rw [← nils_succ, unhide hlV1] at hvv
          subst hvv
          obtain ⟨vr', w9, hrR, ⟨a5', k5', hvr⟩, ⟨q1, q2⟩, P9⟩ := P8.appR (by rw [unhide hlA]; exact unhide hi1000) v
          rw [unhide hlA] at hvr
          subst hvr
          have c8 : w8.cell? ⟨w2.heap.size, 0, none⟩ = some (.slice a5 i k5) := P8.cellR.1
          have z8 : w2.heap.size < w8.heap.size := P8.cellR.2.2
          have q1' : w9.cell? ⟨w2.heap.size, 0, none⟩ = some (.slice a5 i k5) := q1
          have q2' : w9.frozen? ⟨w2.heap.size, 0, none⟩ = false := q2
          rw [← ivs_app, ← nils_succ] at P9
          replace P9 := hide P9
          clear P6 P7 P8 q1 q2
          go_upto_region 22 with (at_builtin; refine wpl_aph rfl (.tmp 101) (.tmp 103) 33 rfl _ _ rfl rfl _ _ hrA ?_)
          clear hrA
          go_upto_region 23 with (at_builtin; refine wpl_aph rfl (.tmp 105) (.tmp 106) 43 rfl _ _ rfl rfl _ _ hrV ?_)
          clear hrV
          go_wp2_with (at_builtin; refine wpl_aph rfl (.tmp 112) (.tmp 114) 33 rfl _ _ rfl rfl _ _ hrR ?_)
          go_roundw
          case rel => exact ⟨i + 1, at_ ++ [v], a8', k8', a9', k9', a5', k5', rfl, rfl, by first | rw [hwi1, unhide hi1] | rw [unhide hi1], hide (by rw [List.length_append, List.length_singleton, unhide hli]), hide (unhide hlt1), P9⟩
          case measure => first | (rw [hwi1]; exact unhide DC) | exact unhide DC
end Go.Proofs.YtdnhmkbdphpjcaaGreatDoor
