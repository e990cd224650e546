/- The contracts of an Arena's Read and Write. -/
import Derived.Test.YtgflkpccddfalaaGreatDoorArenaRead
namespace Go.Proofs.YtgflkpccddfalaaGreatDoor
set_option maxRecDepth 100000
open Go.RowKit Go.Maps Go.ChangeShapes Go.WideShapes Go.ChangeAt

set_option maxHeartbeats 400000 in
theorem index_none (w : World) (p : Value) (x i s q : Int)
    (C : Hid (Calls Tryz.prog 38 #[p, .int .i64 x] w fun e w' => e = .returned (.tuple #[.int .i64 s, .int .i64 q, .bool false]) ∧ G w w')) :
    Calls Tryz.prog 44 #[p, .int .i64 x, .int .i64 i] w fun e w' => e = .returned (.tuple #[.int .i64 0, .bool false]) ∧ G w w' := by
  go_enter Tryz.func44, Tryz.ntmps44
  go_wp2_with fail
  refine (unhide C).mono ?_
  rintro e w1 ⟨rfl, g⟩
  replace g := hide g
  go_wp2_with fail
  go_ret2
  exact ⟨rfl, unhide g⟩

set_option maxHeartbeats 400000 in
theorem index_neg (w : World) (p : Value) (x i s q : Int) (hi : i < 0)
    (C : Hid (Calls Tryz.prog 38 #[p, .int .i64 x] w fun e w' => e = .returned (.tuple #[.int .i64 s, .int .i64 q, .bool true]) ∧ G w w')) :
    Calls Tryz.prog 44 #[p, .int .i64 x, .int .i64 i] w fun e w' => e = .returned (.tuple #[.int .i64 0, .bool false]) ∧ G w w' := by
  go_enter Tryz.func44, Tryz.ntmps44
  go_wp2_with fail
  refine (unhide C).mono ?_
  rintro e w1 ⟨rfl, g⟩
  replace g := hide g
  go_wp2_with fail
  go_ret2
  exact ⟨rfl, unhide g⟩

set_option maxHeartbeats 400000 in
theorem index_far (w : World) (p : Value) (x i s q c : Int) (hd : decide (i < 0) = false) (hc : decide (gw c ≤ i) = true)
    (C : Hid (Calls Tryz.prog 38 #[p, .int .i64 x] w fun e w' => e = .returned (.tuple #[.int .i64 s, .int .i64 q, .bool true]) ∧ G w w'))
    (C2 : Hid (∀ w1, G w w1 → Calls Tryz.prog 63 #[p, .int .i64 s] w1 fun e w' => e = .returned (.int .i64 c) ∧ G w1 w')) :
    Calls Tryz.prog 44 #[p, .int .i64 x, .int .i64 i] w fun e w' => e = .returned (.tuple #[.int .i64 0, .bool false]) ∧ G w w' := by
  go_enter Tryz.func44, Tryz.ntmps44
  go_wp2_with fail
  refine (unhide C).mono ?_
  rintro e w1 ⟨rfl, g⟩
  replace g := hide g
  go_wp2_with fail
  refine (unhide C2 _ (unhide g)).mono ?_
  rintro e w2 ⟨rfl, g2⟩
  replace g := hide ((unhide g).trans g2)
  clear g2
  go_wp2_with (go_at_call 62; refine (words_any _ _).mono ?_; rintro e w' ⟨rfl, rfl⟩)
  go_ret2
  exact ⟨rfl, unhide g⟩

set_option maxHeartbeats 400000 in
theorem index_yes (w : World) (p : Value) (x i s q c : Int) (hi : 0 ≤ i) (hd : decide (i < 0) = false) (hc : decide (gw c ≤ i) = false) (hx0 : 0 ≤ x) (hx1 : x < 32768) (hi1 : i < 64)
    (C : Hid (Calls Tryz.prog 38 #[p, .int .i64 x] w fun e w' => e = .returned (.tuple #[.int .i64 s, .int .i64 q, .bool true]) ∧ G w w'))
    (C2 : Hid (∀ w1, G w w1 → Calls Tryz.prog 63 #[p, .int .i64 s] w1 fun e w' => e = .returned (.int .i64 c) ∧ G w1 w')) :
    Calls Tryz.prog 44 #[p, .int .i64 x, .int .i64 i] w fun e w' => e = .returned (.tuple #[.int .i64 (x + i), .bool true]) ∧ G w w' := by
  go_enter Tryz.func44, Tryz.ntmps44
  go_wp2_with fail
  refine (unhide C).mono ?_
  rintro e w1 ⟨rfl, g⟩
  replace g := hide g
  go_wp2_with fail
  refine (unhide C2 _ (unhide g)).mono ?_
  rintro e w2 ⟨rfl, g2⟩
  replace g := hide ((unhide g).trans g2)
  clear g2
  go_wp2_with (go_at_call 62; refine (words_any _ _).mono ?_; rintro e w' ⟨rfl, rfl⟩)
  go_ret2
  exact ⟨rfl, unhide g⟩

theorem gw_le (c : Int) : 0 ≤ gw c ∧ gw c ≤ 64 := by rcases gw_gp c with ⟨e, _⟩ | ⟨_, _, _, _⟩ <;> omega

/-- The address of a place that is taken, and its words, lie within the arena. -/
theorem Ab.Good.inside {a : Ab} (h : a.Good) {x : Int} (hx : a.is x = true) : 64 ≤ x ∧ x + gw (a.clsI (gs x)) ≤ a.n * 64 ∧ 1 ≤ gs x ∧ gs x < a.n ∧ 0 ≤ a.clsI (gs x) := by
  obtain ⟨s, p, h1, h2, h3, h4, h5, rfl⟩ := (Ab.is_iff h.ok x).1 hx
  have n1 := h.ok.n1
  obtain ⟨g0, g1, g2, g3⟩ := ga_at (s := s) (p := p) h1 (by omega) h3 (h.ok.cr s).2 h4
  rw [g1, (a.I_at h1 h2).1, g0]
  have hr := place_room (p := (p : Int)) (c := a.cls s) (by omega) h4
  omega

theorem index_at (w : World) (B : Nat) (d : Ad) (a : Ab) (h : AreAt w B d a) (g : a.Good) (x i : Int) :
    Calls Tryz.prog 44 #[d.ptr, .int .i64 x, .int .i64 i] w fun e w' => e = .returned (.tuple #[.int .i64 (if a.inW x i = true then x + i else 0), .bool (a.inW x i)]) ∧ G w w' := by
  have C := find_at w B d a h g x
  have C2 : ∀ w1, G w w1 → Calls Tryz.prog 63 #[d.ptr, .int .i64 (gs x)] w1 fun e w' => e = .returned (.int .i64 (a.clsI (gs x))) ∧ G w1 w' := fun w1 hg => class_at w1 B d a (h.grown g.ok.n0 hg) _
  have hgw := gw_le (a.clsI (gs x))
  by_cases hx : a.is x = true
  · have hin := g.inside hx
    have n1 := g.ok.n1
    rw [hx] at C
    by_cases hi : i < 0
    · have e : a.inW x i = false := by simp [Ab.inW]; omega
      rw [e]
      exact index_neg w _ x i _ _ hi (hide C)
    · by_cases hc : gw (a.clsI (gs x)) ≤ i
      · have e : a.inW x i = false := by simp [Ab.inW, hc]
        rw [e]
        exact index_far w _ x i _ _ _ (by simpa using hi) (by simpa using hc) (hide C) (hide C2)
      · have e : a.inW x i = true := by simp [Ab.inW, hx]; omega
        rw [e]
        exact index_yes w _ x i _ _ _ (by omega) (by simpa using hi) (by simpa using hc) (by omega) (by omega) (by omega) (hide C) (hide C2)
  · simp only [Bool.not_eq_true] at hx
    rw [hx] at C
    have e : a.inW x i = false := by simp [Ab.inW, hx]
    rw [e]
    exact index_none w _ x i _ _ (hide C)

set_option maxHeartbeats 400000 in
theorem read_no (w : World) (p : Value) (x i : Int)
    (C : Hid (Calls Tryz.prog 44 #[p, .int .i64 x, .int .i64 i] w fun e w' => e = .returned (.tuple #[.int .i64 0, .bool false]) ∧ G w w')) :
    Calls Tryz.prog 51 #[p, .int .i64 x, .int .i64 i] w fun e w' => e = .returned (.tuple #[.int .i64 0, .int .i64 1]) ∧ G w w' := by
  go_enter Tryz.func51, Tryz.ntmps51
  go_wp2_with fail
  refine (unhide C).mono ?_
  rintro e w1 ⟨rfl, g⟩
  replace g := hide g
  go_wp2_with fail
  go_ret2
  exact ⟨rfl, unhide g⟩

set_option maxHeartbeats 400000 in
theorem read_yes (w : World) (ab wb n cw k : Nat) (x i v : Int) (hk : k < n)
    (c0 : Hid (w.cell? ⟨ab, 0, none⟩ = some (.slice (some ⟨wb, 0, none⟩) n cw))) (cv : Hid (w.cell? ⟨wb, k, none⟩ = some (.int .i64 v)))
    (C : Hid (Calls Tryz.prog 44 #[.pointer (some ⟨ab, 0, none⟩), .int .i64 x, .int .i64 i] w fun e w' => e = .returned (.tuple #[.int .i64 (k : Int), .bool true]) ∧ G w w')) :
    Calls Tryz.prog 51 #[.pointer (some ⟨ab, 0, none⟩), .int .i64 x, .int .i64 i] w fun e w' => e = .returned (.tuple #[.int .i64 v, .int .i64 0]) ∧ G w w' := by
  go_enter Tryz.func51, Tryz.ntmps51
  go_wp2_with fail
  refine (unhide C).mono ?_
  rintro e w1 ⟨rfl, g⟩
  have d0 := G.cell g (unhide c0)
  have dv := G.cell g (unhide cv)
  replace g := hide g
  go_wp2_with fail
  go_ret2
  exact ⟨rfl, unhide g⟩

theorem Ab.Good.wordAt {a : Ab} (h : a.Good) {x i : Int} (hx : a.inW x i = true) : ∃ k : Nat, x + i = k ∧ k < a.n * 64 ∧ 64 ≤ k := by
  unfold Ab.inW at hx
  simp only [Bool.and_eq_true, decide_eq_true_eq] at hx
  obtain ⟨⟨h1, h2⟩, h3⟩ := hx
  have hin := h.inside h1
  exact ⟨(x + i).toNat, by omega, by omega, by omega⟩

theorem read_at (w : World) (B : Nat) (d : Ad) (a : Ab) (h : AreAt w B d a) (g : a.Good) (x i : Int) :
    Calls Tryz.prog 51 #[d.ptr, .int .i64 x, .int .i64 i] w fun e w' => e = .returned (.tuple #[.int .i64 (a.readV x i), .int .i64 (a.readE x i)]) ∧ G w w' := by
  have C := index_at w B d a h g x i
  have n1 := g.ok.n1
  unfold Ab.readV Ab.readE
  by_cases hx : a.inW x i = true
  · obtain ⟨k, hk, hl, _⟩ := g.wordAt hx
    rw [hx, if_pos rfl, hk] at C
    rw [if_pos hx, if_pos hx, hk]
    exact read_yes w d.ab d.wb (a.n * 64) d.cw k x i _ hl (hide h.c0) (hide (h.wd k hl)) (hide C)
  · simp only [Bool.not_eq_true] at hx
    rw [hx, if_neg (by decide)] at C
    rw [hx, if_neg (by decide), if_neg (by decide)]
    exact read_no w _ x i (hide C)

set_option maxHeartbeats 400000 in
theorem write_no (w : World) (p : Value) (x i v : Int)
    (C : Hid (Calls Tryz.prog 44 #[p, .int .i64 x, .int .i64 i] w fun e w' => e = .returned (.tuple #[.int .i64 0, .bool false]) ∧ G w w')) :
    Calls Tryz.prog 26 #[p, .int .i64 x, .int .i64 i, .int .i64 v] w fun e w' => e = .returned (.int .i64 1) ∧ G w w' := by
  go_enter Tryz.func26, Tryz.ntmps26
  go_wp2_with fail
  refine (unhide C).mono ?_
  rintro e w1 ⟨rfl, g⟩
  replace g := hide g
  go_wp2_with fail
  go_ret
  exact ⟨rfl, unhide g⟩

set_option maxHeartbeats 400000 in
theorem write_yes (w : World) (ab wb n cw k : Nat) (x i v u : Int) (hk : k < n)
    (c0 : Hid (w.cell? ⟨ab, 0, none⟩ = some (.slice (some ⟨wb, 0, none⟩) n cw))) (cv : Hid (w.cell? ⟨wb, k, none⟩ = some (.int .i64 u))) (fv : Hid (w.frozen? ⟨wb, k, none⟩ = false))
    (C : Hid (Calls Tryz.prog 44 #[.pointer (some ⟨ab, 0, none⟩), .int .i64 x, .int .i64 i] w fun e w' => e = .returned (.tuple #[.int .i64 (k : Int), .bool true]) ∧ G w w')) :
    Calls Tryz.prog 26 #[.pointer (some ⟨ab, 0, none⟩), .int .i64 x, .int .i64 i, .int .i64 v] w fun e w' => e = .returned (.int .i64 0) ∧ ∃ w1, G w w1 ∧ w' = w1.setCell ⟨wb, k, none⟩ (.int .i64 v) := by
  go_enter Tryz.func26, Tryz.ntmps26
  go_wp2_with fail
  refine (unhide C).mono ?_
  rintro e w1 ⟨rfl, g⟩
  have d0 := G.cell g (unhide c0)
  have dv := G.cell g (unhide cv)
  have df := (World.frozen?_of_block (a := ⟨wb, k, none⟩) (g.block wb (World.block_lt_of_cell? w _ (unhide cv)))).trans (unhide fv)
  replace g := hide g
  go_wp2_with fail
  go_ret
  exact ⟨rfl, w1, unhide g, rfl⟩

/-- A word is set. -/
theorem AreAt.setW {w : World} {B : Nat} {d : Ad} {a : Ab} (h : AreAt w B d a) {k : Nat} (hk : k < a.n * 64) (v : Int) : AreAt (w.setCell ⟨d.wb, k, none⟩ (.int .i64 v)) B d (a.write k v) := by
  have o : ∀ b i, b ≠ d.wb → (w.setCell ⟨d.wb, k, none⟩ (.int .i64 v)).cell? ⟨b, i, none⟩ = w.cell? ⟨b, i, none⟩ := fun b i hb => World.cell?_setCell_other _ _ _ _ (fun e => hb (by rw [← (Addr.mk.inj e).1]))
  refine ⟨(o _ _ h.n01).trans h.c0, (o _ _ h.n01).trans h.c1, ?_, fun s hs => (o _ _ (Ne.symm h.n12)).trans (h.s0 s hs), fun s hs => (o _ _ (Ne.symm h.n12)).trans (h.s1 s hs), fun s hs => (o _ _ (Ne.symm h.n12)).trans (h.s2 s hs),
    fun i => by rw [World.frozen?_setCell]; exact h.fw i, fun i => by rw [World.frozen?_setCell]; exact h.fs i, h.b0, h.b1, h.b2, h.n01, h.n02, h.n12, h.lw, h.ls, h.hcw, h.hcs⟩
  intro i hi
  show _ = some (Value.int .i64 (if (i : Int) = k then v else a.wd i))
  by_cases e : i = k
  · subst e
    rw [if_pos rfl]
    exact World.cell?_setCell_same _ _ _ (h.wd i hi)
  · rw [if_neg (by omega), World.cell?_setCell_other _ _ _ _ (fun h => e (Addr.mk.inj h).2.1.symm)]
    exact h.wd i hi

theorem write_at (w : World) (B : Nat) (d : Ad) (a : Ab) (h : AreAt w B d a) (g : a.Good) (x i v : Int) :
    Calls Tryz.prog 26 #[d.ptr, .int .i64 x, .int .i64 i, .int .i64 v] w fun e w' => e = .returned (.int .i64 (a.readE x i)) ∧ AreAt w' B d (a.writeA x i v) ∧ Tn w w' d := by
  have C := index_at w B d a h g x i
  have n1 := g.ok.n1
  unfold Ab.readE Ab.writeA
  by_cases hx : a.inW x i = true
  · obtain ⟨k, hk, hl, _⟩ := g.wordAt hx
    rw [hx, if_pos rfl, hk] at C
    rw [if_pos hx, if_pos hx, hk]
    refine (write_yes w d.ab d.wb (a.n * 64) d.cw k x i v _ hl (hide h.c0) (hide (h.wd k hl)) (hide (h.fw k)) (hide C)).mono ?_
    rintro e w' ⟨rfl, w1, g1, rfl⟩
    exact ⟨rfl, (h.grown g.ok.n0 g1).setW hl v, (Tn.of_G g1).set _ _ (Or.inl rfl)⟩
  · simp only [Bool.not_eq_true] at hx
    rw [hx, if_neg (by decide)] at C
    rw [hx, if_neg (by decide), if_neg (by decide)]
    refine (write_no w _ x i v (hide C)).mono ?_
    rintro e w' ⟨rfl, g1⟩
    exact ⟨rfl, h.grown g.ok.n0 g1, Tn.of_G g1⟩
end Go.Proofs.YtgflkpccddfalaaGreatDoor
