/- The contracts of an Alloc's calls that go through the spans. -/
import Derived.Test.YtgflkpccddfalaaGreatDoorAllocMem
namespace Go.Proofs.YtgflkpccddfalaaGreatDoor
set_option maxRecDepth 100000
open Go.RowKit Go.Maps Go.ChangeShapes Go.WideShapes Go.ChangeAt

section
variable {W w : World} {x : Ld} {l : Al}

theorem toc_skip {c : Int} {n j : Nat} {l : Al} (hj : j < n) (hc : ¬ l.a.clsI j = c) : Al.toc c (n - j) j l = Al.toc c (n - (j + 1)) (j + 1) l := by
  rw [show n - j = (n - (j + 1)) + 1 by omega, Al.toc, if_neg hc]
theorem toc_hit {c : Int} {n j : Nat} {l : Al} (hj : j < n) (hc : l.a.clsI j = c) (he : (l.swp j).a.takeE j = 0) : Al.toc c (n - j) j l = (⟨(l.swp j).a.takeA j, (l.swp j).u⟩, (l.swp j).a.takeV j, true) := by
  rw [show n - j = (n - (j + 1)) + 1 by omega, Al.toc, if_pos hc, if_pos he]
theorem toc_miss {c : Int} {n j : Nat} {l : Al} (hj : j < n) (hc : l.a.clsI j = c) (he : ¬ (l.swp j).a.takeE j = 0) : Al.toc c (n - j) j l = Al.toc c (n - (j + 1)) (j + 1) (l.swp j) := by
  rw [show n - j = (n - (j + 1)) + 1 by omega, Al.toc, if_pos hc, if_neg he]
theorem takeA_miss {a : Ab} {s : Int} (he : ¬ a.takeE s = 0) : a.takeA s = a := by unfold Ab.takeA; rw [if_neg he]
theorem Al.sweep_n (l : Al) (s : Nat) : (l.sweep s).a.n = l.a.n := Ab.sweepA_n _ _

/-- What takeOfClass knows in a round. -/
structure Tc (W w wr : World) (x : Ld) (c : Int) (n j : Nat) (lj : Al) (R : Al × Int × Bool) : Prop where
  st : StL W wr x lj
  tn : TnL w wr x
  hn : lj.a.n = n
  e : Al.toc c (n - j) j lj = R

set_option maxHeartbeats 1000000 in
theorem l_toc_core (c : Int) (n ub cu : Nat) (h8 : 8 ≤ n) (hn5 : n ≤ 512) (r1 : Al) (v : Int) (b : Bool) (hub : Hid (x.ub = ub)) (hcu : Hid (x.cu = cu)) (h : Hid (Tc W w w x c n 1 l (r1, v, b))) :
    Calls Tryz.prog 78 #[.pointer (some ⟨x.lb, 0, none⟩), .int .i64 c] w fun e w' => e = .returned (.tuple #[.int .i64 v, .bool b]) ∧ StL W w' x r1 ∧ TnL w w' x := by
  go_enter Tryz.func78, Tryz.ntmps78
  go_wp2_with fail
  go_loopw [6] (fun i wr => ∃ (j : Nat) (lj : Al), 1 ≤ j ∧ j ≤ n ∧ i = .int .i64 j ∧ Hid (Tc W w wr x c n j lj (r1, v, b))) (fun i _ => n - (intOf i).toNat)
  case atStart => exact ⟨1, l, Nat.le_refl _, by omega, rfl, h⟩
  case round =>
    obtain ⟨j, lj, hj1, hj, rfl, R⟩ := hrel
    clear h
    have c0 := (unhide R).st.c0
    have hsp := hide (ls_spans (hide (unhide R).st))
    rw [(unhide R).hn] at hsp
    by_cases hjn : j = n
    · subst hjn
      go_wp2_with fail
      refine (unhide hsp).mono ?_
      rintro e w2 ⟨rfl, rfl⟩
      clear c0
      go_wp2_with fail
      have he := (unhide R).e
      rw [Nat.sub_self] at he
      injection he with e1 e2
      injection e2 with e2 e3
      subst e1 e2 e3
      go_returns
      exact ⟨rfl, (unhide R).st, (unhide R).tn⟩
    · have hjl : (j : Int) < (n : Int) := by omega
      have hjn' : j < n := by omega
      go_wp2_with fail
      refine (unhide hsp).mono ?_
      rintro e w2 ⟨rfl, rfl⟩
      clear hsp
      go_wp2_with fail
      refine (ls_cls (hide (unhide R).st) j).mono ?_
      rintro e w3 ⟨rfl, S, g⟩
      have R3 : Hid (Tc W w w3 x c n j lj (r1, v, b)) := hide ⟨S, (unhide R).tn.G g, (unhide R).hn, (unhide R).e⟩
      clear S g R c0
      by_cases hc : lj.a.clsI j = c
      · have R4 : Hid ((lj.swp j).a.takeE j = 0 → (⟨(lj.swp j).a.takeA j, (lj.swp j).u⟩, (lj.swp j).a.takeV j, true) = (r1, v, b)) := hide fun he => (toc_hit hjn' hc he).symm.trans (unhide R3).e
        have R5 : Hid (¬ (lj.swp j).a.takeE j = 0 → Al.toc c (n - (j + 1)) (j + 1) (lj.swp j) = (r1, v, b)) := hide fun he => (toc_miss hjn' hc he).symm.trans (unhide R3).e
        rw [hc]
        have hne : (c != c) = false := by simp
        have hjj : j < lj.a.n := by rw [(unhide R3).hn]; exact hjn'
        have c1 : w3.cell? ⟨x.lb, 1, none⟩ = some (.slice (some ⟨ub, 0, none⟩) n cu) := by rw [← unhide hub, ← unhide hcu, ← (unhide R3).hn]; exact (unhide R3).st.c1
        have u1 : w3.cell? ⟨ub, j, none⟩ = some (.bool (lj.u j)) := by rw [← unhide hub]; exact (unhide R3).st.us j hjj
        have K : Hid (∃ lu, lj.swp j = lu) := hide ⟨_, rfl⟩
        obtain ⟨lu, elu⟩ := unhide K
        rw [elu] at R4 R5
        have elu := hide elu
        have hjj := hide hjj
        clear K hc
        by_cases hu : lj.u j = true
        · rw [hu] at u1
          go_wp2_with fail
          refine (l_sweep (hide (unhide R3).st) j (unhide hjj)).mono ?_
          rintro e w4 ⟨rfl, S, t⟩
          have S4 : Hid (StL W w4 x lu) := hide (by have := unhide elu; unfold Al.swp at this; rw [if_pos hu] at this; rw [← this]; exact S)
          have t4 : Hid (TnL w w4 x) := hide ((unhide R3).tn.trans t)
          have n4 : Hid (lu.a.n = n) := hide (by rw [← unhide elu, Al.swp_n]; exact (unhide R3).hn)
          clear S t R3 u1 c1
          have c0 := (unhide S4).c0
          go_wp2_with fail
          refine (ls_take S4 j).mono ?_
          rintro e w5 ⟨rfl, S, t⟩
          replace t4 := hide ((unhide t4).trans t)
          by_cases he : lu.a.takeE j = 0
          · have q := unhide R4 he
            injection q with e1 e2
            injection e2 with e2 e3
            subst e1 e2 e3
            rw [he]
            replace S := hide S
            clear t c0 S4 R4 R5
            generalize hv : lu.a.takeV j = v
            go_wp2_with fail
            go_returns
            exact ⟨by rw [hv]; rfl, unhide S, unhide t4⟩
          · have q := unhide R5 he
            rw [takeA_miss he] at S
            have RR : Hid (Tc W w w5 x c n (j + 1) lu (r1, v, b)) := hide ⟨S, unhide t4, unhide n4, q⟩
            clear S t c0 S4 R4 R5 q t4
            generalize lu.a.takeE j = ee at he
            have he' : (ee == 0) = false := by simpa using he
            generalize lu.a.takeV j = vv
            go_wp2_with fail
            go_roundw
            case rel => exact ⟨j + 1, lu, by omega, by omega, by go_num, RR⟩
            case measure => simp [intOf]; omega
        · have hu' : lj.u j = false := by simpa using hu
          rw [hu'] at u1
          have S4 : Hid (StL W w3 x lu) := hide (by have := unhide elu; unfold Al.swp at this; rw [if_neg hu] at this; rw [← this]; exact (unhide R3).st)
          have t4 : Hid (TnL w w3 x) := hide (unhide R3).tn
          have n4 : Hid (lu.a.n = n) := hide (by rw [← unhide elu, Al.swp_n]; exact (unhide R3).hn)
          have c0 := (unhide S4).c0
          go_wp2_with fail
          refine (ls_take S4 j).mono ?_
          rintro e w5 ⟨rfl, S, t⟩
          replace t4 := hide ((unhide t4).trans t)
          clear R3 u1 c1
          by_cases he : lu.a.takeE j = 0
          · have q := unhide R4 he
            injection q with e1 e2
            injection e2 with e2 e3
            subst e1 e2 e3
            rw [he]
            replace S := hide S
            clear t c0 S4 R4 R5
            generalize hv : lu.a.takeV j = v
            go_wp2_with fail
            go_returns
            exact ⟨by rw [hv]; rfl, unhide S, unhide t4⟩
          · have q := unhide R5 he
            rw [takeA_miss he] at S
            have RR : Hid (Tc W w w5 x c n (j + 1) lu (r1, v, b)) := hide ⟨S, unhide t4, unhide n4, q⟩
            clear S t c0 S4 R4 R5 q t4
            generalize lu.a.takeE j = ee at he
            have he' : (ee == 0) = false := by simpa using he
            generalize lu.a.takeV j = vv
            go_wp2_with fail
            go_roundw
            case rel => exact ⟨j + 1, lu, by omega, by omega, by go_num, RR⟩
            case measure => simp [intOf]; omega
      · have RR : Hid (Tc W w w3 x c n (j + 1) lj (r1, v, b)) := hide ⟨(unhide R3).st, (unhide R3).tn, (unhide R3).hn, (toc_skip hjn' hc).symm.trans (unhide R3).e⟩
        clear R3
        generalize lj.a.clsI j = cc at hc
        have hne : (cc != c) = true := by simpa using hc
        go_wp2_with fail
        go_roundw
        case rel => exact ⟨j + 1, lj, by omega, by omega, by go_num, RR⟩
        case measure => simp [intOf]; omega
theorem l_toc (h : Hid (StL W w x l)) (c : Int) :
    Calls Tryz.prog 78 #[.pointer (some ⟨x.lb, 0, none⟩), .int .i64 c] w fun e w' => e = .returned (.tuple #[.int .i64 (Al.toc c (l.a.n - 1) 1 l).2.1, .bool (Al.toc c (l.a.n - 1) 1 l).2.2]) ∧ StL W w' x (Al.toc c (l.a.n - 1) 1 l).1 ∧ TnL w w' x :=
  l_toc_core c l.a.n x.ub x.cu (unhide h).st.n8 (unhide h).st.n512 _ _ _ (hide rfl) (hide rfl) (hide ⟨unhide h, TnL.refl _ _, rfl, rfl⟩)

/-! ### withoutClass -/
def optI (o : Option Nat) : Int := match o with | some s => s | none => 0
theorem wo_skip {n j : Nat} {a : Ab} (hj : j < n) (hc : 0 ≤ a.clsI j) : a.wo (n - j) j = a.wo (n - (j + 1)) (j + 1) := by
  rw [show n - j = (n - (j + 1)) + 1 by omega, Ab.wo, if_pos hc]
theorem wo_hit {n j : Nat} {a : Ab} (hj : j < n) (hc : ¬ 0 ≤ a.clsI j) : a.wo (n - j) j = some j := by
  rw [show n - j = (n - (j + 1)) + 1 by omega, Ab.wo, if_neg hc]

set_option maxHeartbeats 1000000 in
theorem l_wo_core (n : Nat) (h8 : 8 ≤ n) (hn5 : n ≤ 512) (o : Option Nat) (hn : Hid (l.a.n = n)) (ho : Hid (l.a.wo (n - 1) 1 = o)) (h : Hid (StL W w x l)) :
    Calls Tryz.prog 79 #[.pointer (some ⟨x.lb, 0, none⟩)] w fun e w' => e = .returned (.tuple #[.int .i64 (optI o), .bool o.isSome]) ∧ StL W w' x l ∧ G w w' := by
  go_enter Tryz.func79, Tryz.ntmps79
  go_wp2_with fail
  go_loopw [4] (fun i wr => ∃ (j : Nat), 1 ≤ j ∧ j ≤ n ∧ i = .int .i64 j ∧ Hid (StL W wr x l ∧ G w wr ∧ l.a.wo (n - j) j = o)) (fun i _ => n - (intOf i).toNat)
  case atStart => exact ⟨1, Nat.le_refl _, by omega, rfl, hide ⟨unhide h, G.refl _, unhide ho⟩⟩
  case round =>
    obtain ⟨j, hj1, hj, rfl, R⟩ := hrel
    clear h ho
    have c0 := (unhide R).1.c0
    have hsp := hide (ls_spans (hide (unhide R).1))
    rw [unhide hn] at hsp
    by_cases hjn : j = n
    · subst hjn
      go_wp2_with fail
      refine (unhide hsp).mono ?_
      rintro e w2 ⟨rfl, rfl⟩
      clear c0
      go_wp2_with fail
      have he := (unhide R).2.2
      rw [Nat.sub_self] at he
      have he2 : o = none := he.symm
      subst he2
      go_returns
      exact ⟨rfl, (unhide R).1, (unhide R).2.1⟩
    · have hjl : (j : Int) < (n : Int) := by omega
      have hjn' : j < n := by omega
      go_wp2_with fail
      refine (unhide hsp).mono ?_
      rintro e w2 ⟨rfl, rfl⟩
      clear hsp
      go_wp2_with fail
      refine (l_classed (hide (unhide R).1) j).mono ?_
      rintro e w3 ⟨rfl, S, g⟩
      by_cases hc : 0 ≤ l.a.clsI j
      · have RR : Hid (StL W w3 x l ∧ G w w3 ∧ l.a.wo (n - (j + 1)) (j + 1) = o) := hide ⟨S, (unhide R).2.1.trans g, (wo_skip hjn' hc).symm.trans (unhide R).2.2⟩
        have hd : decide (0 ≤ l.a.clsI j) = true := by simpa using hc
        rw [hd]
        clear S g R c0
        go_wp2_with fail
        go_roundw
        case rel => exact ⟨j + 1, by omega, by omega, by go_num, RR⟩
        case measure => simp [intOf]; omega
      · have he := (wo_hit hjn' hc).symm.trans (unhide R).2.2
        subst he
        have RR : Hid (StL W w3 x l ∧ G w w3) := hide ⟨S, (unhide R).2.1.trans g⟩
        have hd : decide (0 ≤ l.a.clsI j) = false := by simpa using hc
        rw [hd]
        clear S g R c0
        go_wp2_with fail
        go_returns
        exact ⟨rfl, (unhide RR).1, (unhide RR).2⟩
theorem l_wo (h : Hid (StL W w x l)) :
    Calls Tryz.prog 79 #[.pointer (some ⟨x.lb, 0, none⟩)] w fun e w' => e = .returned (.tuple #[.int .i64 (optI (l.a.wo (l.a.n - 1) 1)), .bool (l.a.wo (l.a.n - 1) 1).isSome]) ∧ StL W w' x l ∧ G w w' :=
  l_wo_core l.a.n (unhide h).st.n8 (unhide h).st.n512 _ (hide rfl) (hide rfl) h

/-! ### sweepOneFree -/
theorem sof_skip {n j : Nat} {l : Al} (hj : j < n) (hu : ¬ l.u j = true) : Al.sof (n - j) j l = Al.sof (n - (j + 1)) (j + 1) l := by
  rw [show n - j = (n - (j + 1)) + 1 by omega, Al.sof, if_neg hu]
theorem sof_miss {n j : Nat} {l : Al} (hj : j < n) (hu : l.u j = true) (hc : 0 ≤ (l.sweep j).a.clsI j) : Al.sof (n - j) j l = Al.sof (n - (j + 1)) (j + 1) (l.sweep j) := by
  rw [show n - j = (n - (j + 1)) + 1 by omega, Al.sof, if_pos hu, if_pos hc]
theorem sof_hit {n j : Nat} {l : Al} (hj : j < n) (hu : l.u j = true) (hc : ¬ 0 ≤ (l.sweep j).a.clsI j) : Al.sof (n - j) j l = (l.sweep j, some j) := by
  rw [show n - j = (n - (j + 1)) + 1 by omega, Al.sof, if_pos hu, if_neg hc]
structure Sf (W w wr : World) (x : Ld) (n j : Nat) (lj : Al) (R : Al × Option Nat) : Prop where
  st : StL W wr x lj
  tn : TnL w wr x
  hn : lj.a.n = n
  e : Al.sof (n - j) j lj = R

set_option maxHeartbeats 1000000 in
theorem l_sof_core (n ub cu : Nat) (hn5 : n ≤ 512) (r1 : Al) (o : Option Nat) (hub : Hid (x.ub = ub)) (hcu : Hid (x.cu = cu)) (h : Hid (Sf W w w x n 0 l (r1, o))) :
    Calls Tryz.prog 81 #[.pointer (some ⟨x.lb, 0, none⟩)] w fun e w' => e = .returned (.tuple #[.int .i64 (optI o), .bool o.isSome]) ∧ StL W w' x r1 ∧ TnL w w' x := by
  have c1 : w.cell? ⟨x.lb, 1, none⟩ = some (.slice (some ⟨ub, 0, none⟩) n cu) := by rw [← unhide hub, ← unhide hcu, ← (unhide h).hn]; exact (unhide h).st.c1
  go_enter Tryz.func81, Tryz.ntmps81
  go_wp2_with fail
  go_loopw [10] (fun i wr => ∃ (j : Nat) (lj : Al), j ≤ n ∧ i = .int .i64 j ∧ Hid (Sf W w wr x n j lj (r1, o))) (fun i _ => n - (intOf i).toNat)
  case atStart => exact ⟨0, l, Nat.zero_le _, rfl, h⟩
  case round =>
    obtain ⟨j, lj, hj, rfl, R⟩ := hrel
    clear h c1
    by_cases hjn : j = n
    · subst hjn
      go_wp2_with fail
      have he := (unhide R).e
      rw [Nat.sub_self] at he
      injection he with e1 e2
      subst e1 e2
      go_returns
      exact ⟨rfl, (unhide R).st, (unhide R).tn⟩
    · have hjl : (j : Int) < (n : Int) := by omega
      have hjn' : j < n := by omega
      have hjj : j < lj.a.n := by rw [(unhide R).hn]; exact hjn'
      have c1 : wr.cell? ⟨x.lb, 1, none⟩ = some (.slice (some ⟨ub, 0, none⟩) n cu) := by rw [← unhide hub, ← unhide hcu, ← (unhide R).hn]; exact (unhide R).st.c1
      have u1 : wr.cell? ⟨ub, j, none⟩ = some (.bool (lj.u j)) := by rw [← unhide hub]; exact (unhide R).st.us j hjj
      by_cases hu : lj.u j = true
      · rw [hu] at u1
        go_wp2_with fail
        refine (l_sweep (hide (unhide R).st) j hjj).mono ?_
        rintro e w4 ⟨rfl, S, t⟩
        have t4 : Hid (TnL w w4 x) := hide ((unhide R).tn.trans t)
        have n4 : Hid ((lj.sweep j).a.n = n) := hide (by rw [Al.sweep_n]; exact (unhide R).hn)
        replace S := hide S
        clear t u1 c1
        go_wp2_with fail
        refine (l_classed S j).mono ?_
        rintro e w5 ⟨rfl, S5, g⟩
        by_cases hc : 0 ≤ (lj.sweep j).a.clsI j
        · have RR : Hid (Sf W w w5 x n (j + 1) (lj.sweep j) (r1, o)) := hide ⟨S5, (unhide t4).G g, unhide n4, (sof_miss hjn' hu hc).symm.trans (unhide R).e⟩
          have hd : decide (0 ≤ (lj.sweep j).a.clsI j) = true := by simpa using hc
          rw [hd]
          clear S S5 g R t4 n4
          go_wp2_with fail
          go_roundw
          case rel => exact ⟨j + 1, lj.sweep j, by omega, by go_num, RR⟩
          case measure => simp [intOf]; omega
        · have he := (sof_hit hjn' hu hc).symm.trans (unhide R).e
          injection he with e1 e2
          subst e1 e2
          have RR : Hid (StL W w5 x (lj.sweep j) ∧ TnL w w5 x) := hide ⟨S5, (unhide t4).G g⟩
          have hd : decide (0 ≤ (lj.sweep j).a.clsI j) = false := by simpa using hc
          rw [hd]
          clear S S5 g R t4 n4
          go_wp2_with fail
          go_returns
          exact ⟨rfl, (unhide RR).1, (unhide RR).2⟩
      · have hu' : lj.u j = false := by simpa using hu
        rw [hu'] at u1
        have RR : Hid (Sf W w wr x n (j + 1) lj (r1, o)) := hide ⟨(unhide R).st, (unhide R).tn, (unhide R).hn, (sof_skip hjn' hu).symm.trans (unhide R).e⟩
        clear R
        go_wp2_with fail
        go_roundw
        case rel => exact ⟨j + 1, lj, by omega, by go_num, RR⟩
        case measure => simp [intOf]; omega
theorem l_sof (h : Hid (StL W w x l)) :
    Calls Tryz.prog 81 #[.pointer (some ⟨x.lb, 0, none⟩)] w fun e w' => e = .returned (.tuple #[.int .i64 (optI (Al.sof l.a.n 0 l).2), .bool (Al.sof l.a.n 0 l).2.isSome]) ∧ StL W w' x (Al.sof l.a.n 0 l).1 ∧ TnL w w' x :=
  l_sof_core l.a.n x.ub x.cu (unhide h).st.n512 _ _ (hide rfl) (hide rfl) (hide ⟨unhide h, TnL.refl _ _, rfl, rfl⟩)
end
end Go.Proofs.YtgflkpccddfalaaGreatDoor
