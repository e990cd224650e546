/- The contracts of an Alloc's other calls. -/
import Derived.Test.YtgflkpccddfalaaGreatDoorAllocWalk
import Derived.Test.YtgflkpccddfalaaGreatDoorRefNew
namespace Go.Proofs.YtgflkpccddfalaaGreatDoor
set_option maxRecDepth 100000
open Go.RowKit Go.Maps Go.ChangeShapes Go.WideShapes Go.ChangeAt

section
variable {W w : World} {x : Ld} {l : Al}

set_option maxHeartbeats 1000000 in
theorem l_first_core (s n ub cu : Nat) (c : Int) (hs : s < n) (r1 : Al) (v e : Int) (hn : Hid (l.a.n = n)) (hub : Hid (x.ub = ub)) (hcu : Hid (x.cu = cu)) (hR : Hid (l.first s c = (r1, v, e))) (h : Hid (StL W w x l)) :
    Calls Tryz.prog 80 #[.pointer (some ⟨x.lb, 0, none⟩), .int .i64 (s : Int), .int .i64 c] w fun r w' => r = .returned (.tuple #[.int .i64 v, .int .i64 e]) ∧ StL W w' x r1 ∧ TnL w w' x := by
  have hsn : s < l.a.n := by rw [unhide hn]; exact hs
  have c1 : w.cell? ⟨x.lb, 1, none⟩ = some (.slice (some ⟨ub, 0, none⟩) n cu) := by rw [← unhide hub, ← unhide hcu, ← unhide hn]; exact (unhide h).c1
  have u1 : w.cell? ⟨ub, s, none⟩ = some (.bool (l.u s)) := by rw [← unhide hub]; exact (unhide h).us s hsn
  have f1 : w.frozen? ⟨ub, s, none⟩ = false := by rw [← unhide hub]; exact (unhide h).fu s
  have S1 : Hid (StL W (w.setCell ⟨ub, s, none⟩ (.bool false)) x ⟨l.a, upd l.u s false⟩) := hide (by rw [← unhide hub]; exact (unhide h).setU hsn false)
  have t1 : Hid (TnL w (w.setCell ⟨ub, s, none⟩ (.bool false)) x) := hide (by rw [← unhide hub]; exact (TnL.refl w x).set s _)
  have c0 := (unhide S1).c0
  clear h hsn
  generalize l.u s = uu at u1
  go_enter Tryz.func80, Tryz.ntmps80
  go_wp2_with fail
  refine (ls_set S1 s c).mono ?_
  rintro r w2 ⟨rfl, S2, t2⟩
  replace t2 := hide ((unhide t1).trans t2)
  replace S2 := hide S2
  clear S1 t1 c0 c1 u1 f1
  by_cases hE : l.a.setE s c = 0
  · have q := unhide hR
    unfold Al.first at q
    rw [if_pos hE] at q
    injection q with q1 q2
    injection q2 with q2 q3
    subst q1 q2 q3
    have c0 := (unhide S2).c0
    simp only [hE]
    go_wp2_with fail
    refine (ls_take S2 s).mono ?_
    rintro r w3 ⟨rfl, S3, t3⟩
    replace t3 := hide ((unhide t2).trans t3)
    replace S3 := hide S3
    clear S2 t2 c0
    simp only
    generalize hv : (l.a.setA s c).takeV s = v
    generalize he : (l.a.setA s c).takeE s = e
    go_wp2_with fail
    go_returns
    exact ⟨by first | rfl | (rw [hv, he]; rfl), unhide S3, unhide t3⟩
  · have q := unhide hR
    unfold Al.first at q
    rw [if_neg hE] at q
    injection q with q1 q2
    injection q2 with q2 q3
    subst q1 q2
    have hA : l.a.setA s c = l.a := by unfold Ab.setA; rw [if_neg hE]
    rw [hA] at S2
    simp only [q3]
    rw [q3] at hE
    have hne : (e != 0) = true := by simpa using hE
    go_wp2_with fail
    go_returns
    exact ⟨rfl, unhide S2, unhide t2⟩
theorem l_first (h : Hid (StL W w x l)) (s : Nat) (hs : s < l.a.n) (c : Int) :
    Calls Tryz.prog 80 #[.pointer (some ⟨x.lb, 0, none⟩), .int .i64 (s : Int), .int .i64 c] w fun r w' => r = .returned (.tuple #[.int .i64 (l.first s c).2.1, .int .i64 (l.first s c).2.2]) ∧ StL W w' x (l.first s c).1 ∧ TnL w w' x :=
  l_first_core s l.a.n x.ub x.cu c hs _ _ _ (hide rfl) (hide rfl) (hide rfl) (hide rfl) h

theorem wo_lt {a : Ab} : ∀ (k s t : Nat), a.wo k s = some t → s ≤ t ∧ t < s + k
  | 0, _, _, h => by cases h
  | k + 1, s, t, h => by
    unfold Ab.wo at h
    split at h
    · have := wo_lt k (s + 1) t h; omega
    · injection h with h; omega
theorem sof_lt : ∀ (k s t : Nat) (l : Al), (Al.sof k s l).2 = some t → s ≤ t ∧ t < s + k
  | 0, _, _, _, h => by cases h
  | k + 1, s, t, l, h => by
    unfold Al.sof at h
    split at h
    · split at h
      · have := sof_lt k (s + 1) t _ h; omega
      · injection h with h; omega
    · have := sof_lt k (s + 1) t _ h; omega

set_option maxHeartbeats 1000000 in
theorem l_take_core (m c : Int) (hc : 0 ≤ c) (hm : Hid (gc m = c)) (R : Al × Int × Int) (hR : Hid (l.takeC c = R)) (h : Hid (StL W w x l)) :
    Calls Tryz.prog 64 #[.pointer (some ⟨x.lb, 0, none⟩), .int .i64 m] w fun r w' => r = .returned (.tuple #[.int .i64 R.2.1, .int .i64 R.2.2]) ∧ StL W w' x R.1 ∧ TnL w w' x := by
  have hcl := hide (class_any m w)
  rw [unhide hm] at hcl
  have hd : decide (c < 0) = false := by simp; omega
  go_enter Tryz.func64, Tryz.ntmps64
  go_wp2_with fail
  refine (unhide hcl).mono ?_
  rintro r w1 ⟨rfl, hw1⟩
  subst hw1
  clear hcl
  go_wp2_with fail
  refine (l_toc h c).mono ?_
  rintro r w2 ⟨rfl, S2, t2⟩
  have hR := unhide hR
  unfold Al.takeC at hR
  generalize Al.toc c (l.a.n - 1) 1 l = q at hR S2
  obtain ⟨r1, v1, b1⟩ := q
  simp only at hR S2 ⊢
  replace S2 := hide S2
  replace t2 := hide t2
  clear h
  by_cases hb : b1 = true
  · subst hb
    rw [if_pos rfl] at hR
    subst hR
    go_wp2_with fail
    go_returns
    exact ⟨rfl, unhide S2, unhide t2⟩
  · have hb' : b1 = false := by simpa using hb
    subst hb'
    rw [if_neg hb] at hR
    clear hb
    go_wp2_with fail
    refine (l_wo S2).mono ?_
    rintro r w3 ⟨rfl, S3, g3⟩
    replace t2 := hide ((unhide t2).G g3)
    clear g3 S2
    replace S3 := hide S3
    unfold Al.take2 at hR
    have hlt := hide (wo_lt (a := r1.a) (r1.a.n - 1) 1)
    generalize r1.a.wo (r1.a.n - 1) 1 = o at hR hlt
    cases o with
    | some s =>
      simp only [optI, Option.isSome] at hR ⊢
      have hs : Hid (s < r1.a.n) := hide (by have := unhide hlt s rfl; have := (unhide S3).st.n8; omega)
      clear hlt
      go_wp2_with fail
      refine (l_first S3 s (unhide hs) c).mono ?_
      rw [hR]
      rintro r w4 ⟨rfl, S4, t4⟩
      replace t4 := hide ((unhide t2).trans t4)
      replace S4 := hide S4
      clear S3 t2
      generalize hv : R.2.1 = v
      generalize he : R.2.2 = e
      go_wp2_with fail
      go_returns
      exact ⟨by first | rfl | (rw [hv, he]; rfl), unhide S4, unhide t4⟩
    | none =>
      simp only [optI, Option.isSome] at hR ⊢
      clear hlt
      go_wp2_with fail
      refine (l_sof S3).mono ?_
      rintro r w4 ⟨rfl, S4, t4⟩
      unfold Al.take3 at hR
      replace t4 := hide ((unhide t2).trans t4)
      have hlt := hide (sof_lt r1.a.n 0 · r1)
      have hnn := hide (Al.sof_n r1.a.n 0 r1)
      have h3n := hide (rfl : r1.a.n = r1.a.n)
      generalize Al.sof r1.a.n 0 r1 = q at hR S4 hlt hnn
      obtain ⟨r2, o⟩ := q
      simp only at hR S4 hlt hnn ⊢
      replace S4 := hide S4
      clear t2 S3 h3n
      cases o with
      | some s =>
        simp only [optI, Option.isSome] at hR ⊢
        have hs : Hid (s < r2.a.n) := hide (by have := unhide hlt s rfl; rw [unhide hnn]; omega)
        clear hlt hnn
        go_wp2_with fail
        refine (l_first S4 s (unhide hs) c).mono ?_
        rw [hR]
        rintro r w5 ⟨rfl, S5, t5⟩
        replace t5 := hide ((unhide t4).trans t5)
        replace S5 := hide S5
        clear S4 t4
        generalize hv : R.2.1 = v
        generalize he : R.2.2 = e
        go_wp2_with fail
        go_returns
        exact ⟨by first | rfl | (rw [hv, he]; rfl), unhide S5, unhide t5⟩
      | none =>
        simp only [optI, Option.isSome] at hR ⊢
        clear hlt hnn
        subst hR
        go_wp2_with fail
        go_returns
        exact ⟨rfl, unhide S4, unhide t4⟩

theorem gc_r' (n : Int) : -1 ≤ gc n ∧ gc n ≤ 5 := by
  unfold gc
  repeat' split
  all_goals omega
set_option maxHeartbeats 400000 in
theorem l_take_no (m : Int) (hc : gc m < 0) (h : Hid (StL W w x l)) :
    Calls Tryz.prog 64 #[.pointer (some ⟨x.lb, 0, none⟩), .int .i64 m] w fun r w' => r = .returned (.tuple #[.int .i64 0, .int .i64 1]) ∧ StL W w' x l ∧ TnL w w' x := by
  have hcl := hide (class_any m w)
  have e : gc m = -1 := by have := gc_r' m; omega
  rw [e] at hcl
  clear hc e
  go_enter Tryz.func64, Tryz.ntmps64
  go_wp2_with fail
  refine (unhide hcl).mono ?_
  rintro r w1 ⟨rfl, hw1⟩
  subst hw1
  clear hcl
  go_wp2_with fail
  go_returns
  exact ⟨rfl, unhide h, TnL.refl _ _⟩
theorem l_take (h : Hid (StL W w x l)) (m : Int) :
    Calls Tryz.prog 64 #[.pointer (some ⟨x.lb, 0, none⟩), .int .i64 m] w fun r w' => r = .returned (.tuple #[.int .i64 (l.take m).2.1, .int .i64 (l.take m).2.2]) ∧ StL W w' x (l.take m).1 ∧ TnL w w' x := by
  unfold Al.take
  by_cases hc : gc m < 0
  · rw [if_pos hc]
    exact l_take_no m hc h
  · rw [if_neg hc]
    exact l_take_core m (gc m) (by omega) (hide rfl) _ (hide rfl) h

/-! ### least, SweepOne, Left, Unswept -/
theorem least_skip {u : Nat → Bool} {n j : Nat} (hj : j < n) (hu : ¬ u j = true) : leastU u (n - j) j = leastU u (n - (j + 1)) (j + 1) := by
  rw [show n - j = (n - (j + 1)) + 1 by omega, leastU, if_neg hu]
theorem least_hit {u : Nat → Bool} {n j : Nat} (hj : j < n) (hu : u j = true) : leastU u (n - j) j = some j := by
  rw [show n - j = (n - (j + 1)) + 1 by omega, leastU, if_pos hu]

set_option maxHeartbeats 1000000 in
theorem l_least_core (lb n ub cu : Nat) (u : Nat → Bool) (hn5 : n ≤ 512) (o : Option Nat) (ho : Hid (leastU u n 0 = o)) (c1 : w.cell? ⟨lb, 1, none⟩ = some (.slice (some ⟨ub, 0, none⟩) n cu)) (us : Hid (∀ s, s < n → w.cell? ⟨ub, s, none⟩ = some (.bool (u s)))) :
    Calls Tryz.prog 98 #[.pointer (some ⟨lb, 0, none⟩)] w fun e w' => e = .returned (.tuple #[.int .i64 (optI o), .bool o.isSome]) ∧ w' = w := by
  go_enter Tryz.func98, Tryz.ntmps98
  go_wp2_with fail
  go_loop [11] (fun i => ∃ (j : Nat), j ≤ n ∧ i = .int .i64 j ∧ Hid (leastU u (n - j) j = o)) (fun i => n - (intOf i).toNat)
  case atStart => exact ⟨0, Nat.zero_le _, rfl, ho⟩
  case round =>
    obtain ⟨j, hj, rfl, R⟩ := hrel
    clear ho c1
    by_cases hjn : j = n
    · subst hjn
      go_wp2_with fail
      have he := unhide R
      rw [Nat.sub_self] at he
      have he2 : o = none := he.symm
      subst he2
      go_returns
      exact ⟨rfl, rfl⟩
    · have hjl : (j : Int) < (n : Int) := by omega
      have hjn' : j < n := by omega
      have u1 := unhide us j hjn'
      by_cases hu : u j = true
      · have he := (least_hit hjn' hu).symm.trans (unhide R)
        subst he
        rw [hu] at u1
        clear R
        go_wp2_with fail
        go_returns
        exact ⟨rfl, rfl⟩
      · have RR : Hid (leastU u (n - (j + 1)) (j + 1) = o) := hide ((least_skip hjn' hu).symm.trans (unhide R))
        have hu' : u j = false := by simpa using hu
        rw [hu'] at u1
        clear R
        go_wp2_with fail
        go_round
        case rel => exact ⟨j + 1, by omega, by go_num, RR⟩
        case measure => simp [intOf]; omega
theorem l_least (h : Hid (StL W w x l)) :
    Calls Tryz.prog 98 #[.pointer (some ⟨x.lb, 0, none⟩)] w fun e w' => e = .returned (.tuple #[.int .i64 (optI (leastU l.u l.a.n 0)), .bool (leastU l.u l.a.n 0).isSome]) ∧ w' = w :=
  l_least_core x.lb l.a.n x.ub x.cu l.u (unhide h).st.n512 _ (hide rfl) (unhide h).c1 (hide (unhide h).us)

theorem leastU_lt (u : Nat → Bool) : ∀ (k s t : Nat), leastU u k s = some t → s ≤ t ∧ t < s + k
  | 0, _, _, h => by cases h
  | k + 1, s, t, h => by
    unfold leastU at h
    split at h
    · injection h with h; omega
    · have := leastU_lt u k (s + 1) t h; omega

set_option maxHeartbeats 1000000 in
theorem l_sweepOne (h : Hid (StL W w x l)) :
    Calls Tryz.prog 89 #[.pointer (some ⟨x.lb, 0, none⟩)] w fun e w' => e = .returned (.bool (leastU l.u l.a.n 0).isSome) ∧ StL W w' x l.sweepOne ∧ TnL w w' x := by
  have C := hide (l_least h)
  have hlt := hide (leastU_lt l.u l.a.n 0)
  unfold Al.sweepOne
  generalize leastU l.u l.a.n 0 = o at C hlt
  cases o with
  | some s =>
    simp only [optI, Option.isSome] at C ⊢
    have hs : Hid (s < l.a.n) := hide (by have := unhide hlt s rfl; omega)
    clear hlt
    go_enter Tryz.func89, Tryz.ntmps89
    go_wp2_with fail
    refine (unhide C).mono ?_
    rintro r w1 ⟨rfl, hw1⟩
    subst hw1
    go_wp2_with fail
    refine (l_sweep h s (unhide hs)).mono ?_
    rintro r w2 ⟨rfl, S2, t2⟩
    replace S2 := hide S2
    replace t2 := hide t2
    go_wp2_with fail
    go_ret
    exact ⟨rfl, unhide S2, unhide t2⟩
  | none =>
    simp only [optI, Option.isSome] at C ⊢
    clear hlt
    go_enter Tryz.func89, Tryz.ntmps89
    go_wp2_with fail
    refine (unhide C).mono ?_
    rintro r w1 ⟨rfl, hw1⟩
    subst hw1
    go_wp2_with fail
    go_ret
    exact ⟨rfl, unhide h, TnL.refl _ _⟩

theorem unsN_le' (u : Nat → Bool) : ∀ k, unsN u k ≤ k
  | 0 => Nat.le_refl _
  | k + 1 => by have := unsN_le' u k; unfold unsN; split <;> omega

end
end Go.Proofs.YtgflkpccddfalaaGreatDoor
