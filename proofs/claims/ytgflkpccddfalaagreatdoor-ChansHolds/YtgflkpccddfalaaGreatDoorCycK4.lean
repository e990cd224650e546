/- The program's Cycle while nothing is held: a Step, whatever the phase. -/
import Derived.Test.YtgflkpccddfalaaGreatDoorCycK3
namespace Go.Proofs.YtgflkpccddfalaaGreatDoor
set_option maxRecDepth 100000
open Go.ChangeShapes Go.WideShapes Go.ChangeAt Go.RowKit Go.Maps

/-- What changes, plain. -/
structure Pk where
  al : Al
  ph : Int
  kept : Int
  done : Int
/-- A Cycle and whom it serves. -/
structure KH (W w : World) (xl : Ld) (b : Kn) (hb : Nat) (s : Pk) : Prop where
  ks : KS W w xl b s.al s.ph s.kept s.done
  hd : HdA w hb
  lt : hb < w.heap.size
  ne : hb ≠ b.cb ∧ hb ≠ b.mb ∧ hb ≠ xl.d.wb ∧ hb ≠ xl.d.sb ∧ hb ≠ xl.ub
theorem HdA.block {w w' : World} {hb : Nat} (h : HdA w hb) (k : w'.heap[hb]? = w.heap[hb]?) : HdA w' hb :=
  ⟨(World.cell?_of_block (a := ⟨hb, 0, none⟩) k).trans h.g, (World.cell?_of_block (a := ⟨hb, 5, none⟩) k).trans h.o0, (World.cell?_of_block (a := ⟨hb, 6, none⟩) k).trans h.o1, (World.cell?_of_block (a := ⟨hb, 7, none⟩) k).trans h.o2, (World.cell?_of_block (a := ⟨hb, 8, none⟩) k).trans h.o3⟩
section
variable {W w w' w1 : World} {xl : Ld} {b : Kn} {hb : Nat} {s s' : Pk}
theorem KH.gr (h : KH W w xl b hb s) (g : G w w') : KH W w' xl b hb s := ⟨h.ks.gr g, h.hd.gr g, Nat.lt_of_lt_of_le h.lt g.size, h.ne⟩
theorem KH.turn (h : KH W w xl b hb s) (k : KS W w' xl b s'.al s'.ph s'.kept s'.done) (t : TnL w w' xl) : KH W w' xl b hb s' :=
  ⟨k, h.hd.block (t.block _ h.lt h.ne.2.2.1 h.ne.2.2.2.1 h.ne.2.2.2.2), Nat.lt_of_lt_of_le h.lt t.size, h.ne⟩
theorem KH.set (h : KH W w xl b hb s) (i : Nat) (v : Value) (k : KS W (w.setCell ⟨b.cb, i, none⟩ v) xl b s'.al s'.ph s'.kept s'.done) : KH W (w.setCell ⟨b.cb, i, none⟩ v) xl b hb s' :=
  ⟨k, h.hd.block ((h.ks.other i v).2 hb h.ne.1), by rw [World.size_setCell]; exact h.lt, h.ne⟩

def Pk.sweep (s : Pk) : Pk := if (leastU s.al.u s.al.a.n 0).isSome = true then ⟨s.al.sweepOne, s.ph, s.kept, s.done⟩ else ⟨s.al.sweepOne, 0, max (s.al.sweepOne.a.used s.al.sweepOne.a.n) 64, s.done + 1⟩
def Pk.step (s : Pk) : Pk := if s.ph = 1 then ⟨s.al, 2, s.kept, s.done⟩ else if s.ph = 2 then ⟨s.al.stale, 3, s.kept, s.done⟩ else if s.ph = 3 then s.sweep else s
set_option maxHeartbeats 1000000 in
theorem k_stepSweep (h : Hid (KH W w xl b hb s)) (hd : 0 ≤ s.done ∧ s.done ≤ 1000000) : Calls Tryz.prog 73 #[.pointer (some ⟨b.cb, 0, none⟩)] w fun e w' => e = .returned (.tuple #[]) ∧ KH W w' xl b hb s.sweep := by
  have c1 := (unhide h).ks.c1
  have CO := hide (l_sweepOne (hide (unhide h).ks.st))
  unfold Pk.sweep
  cases hb1 : (leastU s.al.u s.al.a.n 0).isSome
  · rw [hb1] at CO
    rw [if_neg (by simp)]
    go_enter Tryz.func73, Tryz.ntmps73
    go_wp2_with fail
    refine (unhide CO).mono ?_
    rintro r w1 ⟨rfl, s1, t1⟩
    have h1 := hide ((unhide h).turn (s' := ⟨s.al.sweepOne, s.ph, s.kept, s.done⟩) ((unhide h).ks.turn s1 t1) t1)
    have h2 := hide ((unhide h1).set (s' := ⟨s.al.sweepOne, 0, s.kept, s.done⟩) 4 (.int .i64 0) ((unhide h1).ks.phase 0))
    have h3 := hide ((unhide h2).set (s' := ⟨s.al.sweepOne, 0, s.kept, s.done + 1⟩) 7 (.int .i64 (s.done + 1)) ((unhide h2).ks.done7 (s.done + 1)))
    have f4 := (unhide h1).ks.fz 4
    have c4 := (unhide h1).ks.c4
    have c7 := (unhide h2).ks.c7
    have f7 := (unhide h2).ks.fz 7
    have d1 := (unhide h3).ks.c1
    have d6 := (unhide h3).ks.c6
    have f6 := (unhide h3).ks.fz 6
    simp only at c4 c7 d6
    have CU := hide (l_used (hide (unhide h3).ks.st))
    obtain ⟨u, hu⟩ : ∃ u : Int, s.al.sweepOne.a.used s.al.sweepOne.a.n = u := ⟨_, rfl⟩
    have hu' := hide hu
    simp only at CU
    rw [hu] at CU
    clear CO s1 t1 hu
    go_wp2_with fail
    refine (unhide CU).mono ?_
    rintro r w2 ⟨rfl, _, g2⟩
    have h4 := hide ((unhide h3).gr g2)
    have e6 := (unhide h4).ks.c6
    have k6 := (unhide h4).ks.fz 6
    simp only at e6
    clear CU g2
    go_wp2_with fail
    all_goals
      go_end0
      refine ⟨rfl, ?_⟩
      first
      | (rw [unhide hu', Int.max_eq_left (by omega)]; exact (unhide h4).set 6 _ ((unhide h4).ks.keep6 u))
      | (rw [unhide hu', Int.max_eq_right (by omega)]; exact (unhide h4).set 6 _ ((unhide h4).ks.keep6 64))
  · rw [hb1] at CO
    rw [if_pos rfl]
    go_enter Tryz.func73, Tryz.ntmps73
    go_wp2_with fail
    refine (unhide CO).mono ?_
    rintro r w1 ⟨rfl, s1, t1⟩
    have h1 := hide ((unhide h).turn (s' := ⟨s.al.sweepOne, s.ph, s.kept, s.done⟩) ((unhide h).ks.turn s1 t1) t1)
    clear CO s1 t1
    go_wp2_with fail
    go_returns
    exact ⟨rfl, unhide h1⟩
end
end Go.Proofs.YtgflkpccddfalaaGreatDoor
