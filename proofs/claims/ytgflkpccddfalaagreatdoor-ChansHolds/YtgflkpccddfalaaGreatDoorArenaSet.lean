/- The contracts of an Arena's Set, Mark and Sweep. -/
import Derived.Test.YtgflkpccddfalaaGreatDoorArenaWords
namespace Go.Proofs.YtgflkpccddfalaaGreatDoor
set_option maxRecDepth 100000
open Go.RowKit Go.Maps Go.ChangeShapes Go.WideShapes Go.ChangeAt

/-- The three cells of one span are set, whichever of them. -/
theorem AreAt.span {w w' : World} {B : Nat} {d : Ad} {a a' : Ab} (h : AreAt w B d a) {s : Nat} (hn : a'.n = a.n) (hwd : a'.wd = a.wd) (ho : ∀ t, t ≠ s → a'.cls t = a.cls t ∧ a'.tk t = a.tk t ∧ a'.mr t = a.mr t)
    (hc : ∀ b i, b ≠ d.sb ∨ i ≠ s * 3 ∧ i ≠ s * 3 + 1 ∧ i ≠ s * 3 + 2 → w'.cell? ⟨b, i, none⟩ = w.cell? ⟨b, i, none⟩) (hf : ∀ b i, w'.frozen? ⟨b, i, none⟩ = w.frozen? ⟨b, i, none⟩)
    (e0 : w'.cell? ⟨d.sb, s * 3, none⟩ = some (.int .i64 (a'.cls s))) (e1 : w'.cell? ⟨d.sb, s * 3 + 1, none⟩ = some (.int .u64 (a'.tk s : Int))) (e2 : w'.cell? ⟨d.sb, s * 3 + 2, none⟩ = some (.int .u64 (a'.mr s : Int))) : AreAt w' B d a' := by
  refine ⟨by rw [hn]; exact (hc _ _ (Or.inl h.n02)).trans h.c0, by rw [hn]; exact (hc _ _ (Or.inl h.n02)).trans h.c1, ?_, ?_, ?_, ?_, fun i => (hf _ _).trans (h.fw i), fun i => (hf _ _).trans (h.fs i), h.b0, h.b1, h.b2, h.n01, h.n02, h.n12, by rw [hn]; exact h.lw, by rw [hn]; exact h.ls, h.hcw, h.hcs⟩
  · intro i hi
    rw [hwd, hc _ _ (Or.inl h.n12)]
    exact h.wd i (by omega)
  · intro t ht
    by_cases e : t = s
    · subst e; exact e0
    · rw [(ho t e).1, hc _ _ (Or.inr (by omega))]; exact h.s0 t (by omega)
  · intro t ht
    by_cases e : t = s
    · subst e; exact e1
    · rw [(ho t e).2.1, hc _ _ (Or.inr (by omega))]; exact h.s1 t (by omega)
  · intro t ht
    by_cases e : t = s
    · subst e; exact e2
    · rw [(ho t e).2.2, hc _ _ (Or.inr (by omega))]; exact h.s2 t (by omega)

theorem cell_other {w : World} {b i b' i' : Nat} (v : Value) (h : b' ≠ b ∨ i' ≠ i) : (w.setCell ⟨b, i, none⟩ v).cell? ⟨b', i', none⟩ = w.cell? ⟨b', i', none⟩ :=
  World.cell?_setCell_other _ _ _ _ (fun e => by injection e with e1 e2; omega)
theorem cell_same {w : World} {b i : Nat} (v : Value) {u : Value} (h : w.cell? ⟨b, i, none⟩ = some u) : (w.setCell ⟨b, i, none⟩ v).cell? ⟨b, i, none⟩ = some v := World.cell?_setCell_same _ _ _ h

/-! ### Set -/
set_option maxHeartbeats 400000 in
theorem set_out (w : World) (ab sb n cs : Nat) (s c : Int) (c1 : Hid (w.cell? ⟨ab, 1, none⟩ = some (.slice (some ⟨sb, 0, none⟩) n cs))) (hh : hasB n s = false) :
    Calls Tryz.prog 94 #[.pointer (some ⟨ab, 0, none⟩), .int .i64 s, .int .i64 c] w fun e w' => e = .returned (.int .i64 1) ∧ w' = w := by
  go_enter Tryz.func94, Tryz.ntmps94
  go_wp2_with (go_at_call 56; refine (has_any _ _ sb n cs _ (unhide c1)).mono ?_; rw [hh]; rintro e w' ⟨rfl, rfl⟩)
  go_ret
  exact ⟨rfl, rfl⟩

set_option maxHeartbeats 400000 in
theorem set_bad (w : World) (ab sb n cs : Nat) (s c : Int) (c1 : Hid (w.cell? ⟨ab, 1, none⟩ = some (.slice (some ⟨sb, 0, none⟩) n cs))) (hh : hasB n s = true) (hc : (gp c == 0) = true) :
    Calls Tryz.prog 94 #[.pointer (some ⟨ab, 0, none⟩), .int .i64 s, .int .i64 c] w fun e w' => e = .returned (.int .i64 1) ∧ w' = w := by
  go_enter Tryz.func94, Tryz.ntmps94
  go_wp2_with (first | (go_at_call 56; refine (has_any _ _ sb n cs _ (unhide c1)).mono ?_; rw [hh]; rintro e w' ⟨rfl, rfl⟩) | (go_at_call 104; refine (places_any _ _).mono ?_; rintro e w' ⟨rfl, rfl⟩))
  go_ret
  exact ⟨rfl, rfl⟩

set_option maxHeartbeats 400000 in
theorem set_full (w : World) (ab sb n cs : Nat) (s c k : Int) (c1 : Hid (w.cell? ⟨ab, 1, none⟩ = some (.slice (some ⟨sb, 0, none⟩) n cs))) (hh : hasB n s = true) (hc : (gp c == 0) = false) (hk : (k != -1) = true)
    (C : Hid (Calls Tryz.prog 63 #[.pointer (some ⟨ab, 0, none⟩), .int .i64 s] w fun e w' => e = .returned (.int .i64 k) ∧ G w w')) :
    Calls Tryz.prog 94 #[.pointer (some ⟨ab, 0, none⟩), .int .i64 s, .int .i64 c] w fun e w' => e = .returned (.int .i64 5) ∧ G w w' := by
  go_enter Tryz.func94, Tryz.ntmps94
  go_wp2_with (first | (go_at_call 56; refine (has_any _ _ sb n cs _ (unhide c1)).mono ?_; rw [hh]; rintro e w' ⟨rfl, rfl⟩) | (go_at_call 104; refine (places_any _ _).mono ?_; rintro e w' ⟨rfl, rfl⟩))
  refine (unhide C).mono ?_
  rintro e w1 ⟨rfl, g⟩
  replace g := hide g
  go_wp2_with fail
  go_ret
  exact ⟨rfl, unhide g⟩

set_option maxHeartbeats 400000 in
theorem set_free (w : World) (ab sb n cs : Nat) (s : Nat) (c k t m : Int) (c1 : Hid (w.cell? ⟨ab, 1, none⟩ = some (.slice (some ⟨sb, 0, none⟩) n cs))) (hh : hasB n s = true) (hs : s < n) (hc : (gp c == 0) = false) (hk : (k != -1) = false)
    (C : Hid (Calls Tryz.prog 63 #[.pointer (some ⟨ab, 0, none⟩), .int .i64 (s : Int)] w fun e w' => e = .returned (.int .i64 k) ∧ G w w'))
    (e0 : Hid (w.cell? ⟨sb, s * 3, none⟩ = some (.int .i64 k))) (e1 : Hid (w.cell? ⟨sb, s * 3 + 1, none⟩ = some (.int .u64 t))) (e2 : Hid (w.cell? ⟨sb, s * 3 + 2, none⟩ = some (.int .u64 m)))
    (f : Hid (∀ i, w.frozen? ⟨sb, i, none⟩ = false)) :
    Calls Tryz.prog 94 #[.pointer (some ⟨ab, 0, none⟩), .int .i64 (s : Int), .int .i64 c] w fun e w' => e = .returned (.int .i64 0) ∧ ∃ w1, G w w1 ∧
      w' = ((w1.setCell ⟨sb, s * 3, none⟩ (.int .i64 c)).setCell ⟨sb, s * 3 + 1, none⟩ (.int .u64 0)).setCell ⟨sb, s * 3 + 2, none⟩ (.int .u64 0) := by
  go_enter Tryz.func94, Tryz.ntmps94
  go_wp2_with (first | (go_at_call 56; refine (has_any _ _ sb n cs _ (unhide c1)).mono ?_; rw [hh]; rintro e w' ⟨rfl, rfl⟩) | (go_at_call 104; refine (places_any _ _).mono ?_; rintro e w' ⟨rfl, rfl⟩))
  refine (unhide C).mono ?_
  rintro e w1 ⟨rfl, g⟩
  have d1 := G.cell g (unhide c1)
  have x0 := G.cell g (unhide e0)
  have x1 := G.cell g (unhide e1)
  have x2 := G.cell g (unhide e2)
  have fz : ∀ i, w1.frozen? ⟨sb, i, none⟩ = false := fun i => (World.frozen?_of_block (a := ⟨sb, i, none⟩) (g.block sb (World.block_lt_of_cell? _ _ (unhide e0)))).trans (unhide f i)
  have f0 := fz (s * 3)
  have f1 := fz (s * 3 + 1)
  have f2 := fz (s * 3 + 2)
  clear fz
  replace g := hide g
  go_wp2_with fail
  go_ret
  exact ⟨rfl, w1, unhide g, rfl⟩

theorem gp_zero (c : Int) : (gp c == 0) = decide (c < 0 ∨ 5 < c) := by
  rcases cls c with h | h | h | h | h | h | h | h
  · rw [gp_lo h]; simp [h]
  · rw [gp_hi h]; simp [h]
  all_goals (subst h; decide)

theorem set_at (w : World) (B : Nat) (d : Ad) (a : Ab) (h : AreAt w B d a) (g : a.Good) (s c : Int) :
    Calls Tryz.prog 94 #[d.ptr, .int .i64 s, .int .i64 c] w fun e w' => e = .returned (.int .i64 (a.setE s c)) ∧ AreAt w' B d (a.setA s c) ∧ Tn w w' d := by
  have C := class_at w B d a h s
  have hz := gp_zero c
  unfold Ab.setA
  by_cases hs : 1 ≤ s ∧ s < a.n
  · by_cases hc : c < 0 ∨ 5 < c
    · have e : a.setE s c = 1 := by unfold Ab.setE; rw [if_pos (Or.inr hc)]
      rw [e, if_neg (by decide)]
      refine (set_bad w d.ab d.sb a.n d.cs s c (hide h.c1) (hasB_iff.2 hs) (by rw [hz]; simpa using hc)).mono ?_
      rintro e w' ⟨rfl, rfl⟩
      exact ⟨rfl, h, Tn.of_G (G.refl _)⟩
    · have hr := g.clsI_r s
      by_cases hk : 0 ≤ a.clsI s
      · have e : a.setE s c = 5 := by unfold Ab.setE; rw [if_neg (fun x => x.elim (fun y => y hs) hc), if_pos hk]
        rw [e, if_neg (by decide)]
        refine (set_full w d.ab d.sb a.n d.cs s c _ (hide h.c1) (hasB_iff.2 hs) (by rw [hz]; simpa using hc) (by simp; omega) (hide C)).mono ?_
        rintro e w' ⟨rfl, g1⟩
        exact ⟨rfl, h.grown g.ok.n0 g1, Tn.of_G g1⟩
      · have e : a.setE s c = 0 := by unfold Ab.setE; rw [if_neg (fun x => x.elim (fun y => y hs) hc), if_neg hk]
        rw [e, if_pos rfl]
        obtain ⟨k, rfl⟩ := Int.eq_ofNat_of_zero_le (show 0 ≤ s by omega)
        obtain ⟨i0, i1, i2⟩ := a.I_at (s := k) (by omega) (by omega)
        rw [i0] at C
        have hkn : k < a.n := by omega
        refine (set_free w d.ab d.sb a.n d.cs k c _ _ _ (hide h.c1) (hasB_iff.2 hs) hkn (by rw [hz]; simpa using hc) (by simp; omega) (hide C) (hide (h.s0 k hkn)) (hide (h.s1 k hkn)) (hide (h.s2 k hkn)) (hide h.fs)).mono ?_
        rintro e w' ⟨rfl, w1, g1, rfl⟩
        have h1 := h.grown g.ok.n0 g1
        refine ⟨rfl, ?_, (((Tn.of_G g1).set _ _ (Or.inr rfl)).set _ _ (Or.inr rfl)).set _ _ (Or.inr rfl)⟩
        refine h1.span (s := k) rfl rfl (fun t ht => ⟨upd_other _ _ ht, upd_other _ _ ht, upd_other _ _ ht⟩) ?_ ?_ ?_ ?_ ?_
        · intro b i hb
          rw [cell_other _ (by omega), cell_other _ (by omega), cell_other _ (by omega)]
        · intro b i
          rw [World.frozen?_setCell, World.frozen?_setCell, World.frozen?_setCell]
        · rw [cell_other _ (by omega), cell_other _ (by omega), cell_same _ (h1.s0 k hkn)]
          simp [Ab.set, upd]
        · rw [cell_other _ (by omega), cell_same _ ((cell_other _ (by omega)).trans (h1.s1 k hkn))]
          simp [Ab.set, upd]
        · rw [cell_same _ ((cell_other _ (by omega)).trans ((cell_other _ (by omega)).trans (h1.s2 k hkn)))]
          simp [Ab.set, upd]
  · have e : a.setE s c = 1 := by unfold Ab.setE; rw [if_pos (Or.inl hs)]
    rw [e, if_neg (by decide)]
    refine (set_out w d.ab d.sb a.n d.cs s c (hide h.c1) (by rw [← Bool.not_eq_true, hasB_iff]; exact hs)).mono ?_
    rintro e w' ⟨rfl, rfl⟩
    exact ⟨rfl, h, Tn.of_G (G.refl _)⟩
end Go.Proofs.YtgflkpccddfalaaGreatDoor
