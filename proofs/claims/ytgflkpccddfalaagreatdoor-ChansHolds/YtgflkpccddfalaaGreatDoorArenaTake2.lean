/- The contract of an Arena's Take, at any span. -/
import Derived.Test.YtgflkpccddfalaaGreatDoorArenaTake
namespace Go.Proofs.YtgflkpccddfalaaGreatDoor
set_option maxRecDepth 100000
open Go.RowKit Go.Maps Go.ChangeShapes Go.WideShapes Go.ChangeAt

theorem setCells_block {b : Nat} {v : Value} : ∀ (n o : Nat) (w : World), (w.setCells b o (List.replicate n v)).os = w.os ∧ (w.setCells b o (List.replicate n v)).tape = w.tape ∧ (w.setCells b o (List.replicate n v)).output = w.output ∧
    (w.setCells b o (List.replicate n v)).heap.size = w.heap.size ∧ ∀ k, k ≠ b → (w.setCells b o (List.replicate n v)).heap[k]? = w.heap[k]?
  | 0, _, _ => ⟨rfl, rfl, rfl, rfl, fun _ _ => rfl⟩
  | n + 1, o, w => by
    obtain ⟨h1, h2, h3, h4, h5⟩ := setCells_block (b := b) (v := v) n (o + 1) (w.setCell ⟨b, o, none⟩ v)
    refine ⟨h1, h2, h3, by rw [← World.size_setCell w ⟨b, o, none⟩ v]; exact h4, fun k hk => ?_⟩
    rw [List.replicate_succ, World.setCells, h5 k hk, Below.heap_setCell _ _ _ _ hk]

theorem Tn.sets {w w1 : World} {d : Ad} (h : Tn w w1 d) (o n : Nat) (v : Value) : Tn w (w1.setCells d.wb o (List.replicate n v)) d := by
  obtain ⟨h1, h2, h3, h4, h5⟩ := setCells_block (b := d.wb) (v := v) n o w1
  exact ⟨h1.trans h.os, h2.trans h.tape, h3.trans h.output, by rw [h4]; exact h.size, fun k hk e1 e2 => (h5 k e1).trans (h.block k hk e1 e2)⟩

theorem lib_ctz_lt (y : Nat) (h : y ≠ 0) (hy : y < 18446744073709551616) : Lib.ctz 64 y < 64 := (Lib.lowest_bit 64 y h hy).2

/-- The least place that is free. -/
theorem free_spec {m : Nat} {c : Int} (hm : ∀ p, m.testBit p = true → (p : Int) < gp c) (hc : 0 ≤ c) (hc5 : c ≤ 5) (hf : (m : Int) ≠ gf c) : (freeN m : Int) < gp c ∧ m.testBit (freeN m) = false ∧ ∀ p, p < freeN m → m.testBit p = true := by
  have hb : m < 4294967296 := nat_lt_of_bits (k := 32) fun p hp => by
    have := hm p hp
    rcases gw_gp c with ⟨_, e⟩ | ⟨_, _, _, _, e, _⟩ <;> omega
  have hfull : ∃ g : Nat, gp c = g ∧ (2 ^ g - 1 : Nat) = gf c ∧ g ≤ 32 := by
    rcases cls c with h | h | h | h | h | h | h | h
    · omega
    · omega
    all_goals (subst h; exact ⟨_, rfl, by decide, by decide⟩)
  obtain ⟨g, hg, hgf, hg32⟩ := hfull
  have hbit : ∀ p, p < 64 → (18446744073709551615 - m).testBit p = !m.testBit p := by
    intro p hp
    have e3 : 18446744073709551615 - m = 2 ^ 64 - (m + 1) := by omega
    rw [e3, Nat.testBit_two_pow_sub_succ (show m < 2 ^ 64 by omega)]
    simp [hp]
  -- some place below g is free
  have hex : ∃ p, p < g ∧ m.testBit p = false := by
    apply Classical.byContradiction
    intro hno
    apply hf
    rw [← hgf]
    congr 1
    refine Nat.eq_of_testBit_eq fun i => ?_
    rw [Nat.testBit_two_pow_sub_one]
    by_cases hi : i < g
    · cases hmi : m.testBit i
      · exact absurd ⟨i, hi, hmi⟩ hno
      · simp [hi]
    · cases hmi : m.testBit i
      · simp [hi]
      · have := hm i hmi; omega
  obtain ⟨p0, hp0, hp0f⟩ := hex
  have hy : 18446744073709551615 - m < 18446744073709551616 := by omega
  have hy0 : 18446744073709551615 - m ≠ 0 := by omega
  have hlt := lib_ctz_lt _ hy0 hy
  obtain ⟨mm, hmm, _⟩ := Lib.ctzFrom_spec 64 (18446744073709551615 - m) (by omega) hy
  have e : Lib.ctz 64 (18446744073709551615 - m) = Lib.ctzFrom 64 (18446744073709551615 - m) := by simp [Lib.ctz, hy0]
  unfold freeN
  rw [e] at hlt
  rw [e]
  generalize Lib.ctzFrom 64 (18446744073709551615 - m) = c0 at *
  have hb2 : ∀ i, (18446744073709551615 - m).testBit i = (decide (c0 ≤ i) && (2 * mm + 1).testBit (i - c0)) := fun i => by rw [hmm, Nat.mul_comm, Nat.testBit_mul_two_pow]
  have t1 : m.testBit c0 = false := by
    have h1 := hbit c0 hlt
    rw [hb2 c0] at h1
    simpa [Nat.testBit_zero] using h1
  have t2 : ∀ p, p < c0 → m.testBit p = true := by
    intro p hp
    have h1 := hbit p (by omega)
    rw [hb2 p] at h1
    simpa [show ¬ c0 ≤ p by omega] using h1
  refine ⟨?_, t1, t2⟩
  rcases Nat.lt_or_ge p0 c0 with h | h
  · rw [t2 p0 h] at hp0f; cases hp0f
  · omega

theorem gf_bits {a : Ab} (h : a.Good) {s : Nat} (hc : 0 ≤ a.cls s) : ∀ p, (a.tk s).testBit p = true → (p : Int) < gp (a.cls s) := h.ok.tb s hc

/-- What Take finds where there is a place. -/
theorem Ab.Good.free {a : Ab} (h : a.Good) {s : Int} (he : a.takeE s = 0) : ∃ k p : Nat, s = k ∧ freeN (a.tkI s) = p ∧ 1 ≤ k ∧ k < a.n ∧ 0 ≤ a.cls k ∧ a.clsI s = a.cls k ∧ a.tkI s = a.tk k ∧ (p : Int) < gp (a.cls k) ∧ (a.tk k).testBit p = false ∧ (∀ q, q < p → (a.tk k).testBit q = true) ∧ ((a.tk k : Int) ≠ gf (a.cls k)) := by
  unfold Ab.takeE at he
  split at he
  · omega
  · rename_i hc
    split at he
    · omega
    · rename_i hf
      have hs : 1 ≤ s ∧ s < a.n := by
        by_cases hs : 1 ≤ s ∧ s < a.n
        · exact hs
        · rw [(a.I_no hs).1] at hc; omega
      obtain ⟨k, rfl⟩ := Int.eq_ofNat_of_zero_le (show 0 ≤ s by omega)
      obtain ⟨i0, i1, i2⟩ := a.I_at (s := k) (by omega) (by omega)
      rw [i0, i1] at hf
      rw [i0] at hc
      obtain ⟨f1, f2, f3⟩ := free_spec (h.ok.tb k (by omega)) (by omega) (h.ok.cr k).2 hf
      exact ⟨k, freeN (a.tk k), rfl, by rw [i1], by omega, by omega, by omega, i0, i1, f1, f2, f3, hf⟩

theorem Ab.Good.takeA {a : Ab} (h : a.Good) (s : Int) : (a.takeA s).Good := by
  unfold Ab.takeA
  split
  · rename_i he
    obtain ⟨k, p, rfl, e, h1, h2, h3, h4, h5, h6, _⟩ := h.free he
    rw [e]
    exact h.take h3 h6
  · exact h

theorem take_at (w : World) (B : Nat) (d : Ad) (a : Ab) (h : AreAt w B d a) (g : a.Good) (tab : Tab w) (s : Int) :
    Calls Tryz.prog 92 #[d.ptr, .int .i64 s] w fun e w' => e = .returned (.tuple #[.int .i64 (a.takeV s), .int .i64 (a.takeE s)]) ∧ AreAt w' B d (a.takeA s) ∧ Tn w w' d := by
  have C := look_any w B d a h s
  have hr := g.clsI_r s
  have n1 := g.ok.n1
  unfold Ab.takeV Ab.takeA
  by_cases he : a.takeE s = 0
  · obtain ⟨k, p, rfl, e, h1, h2, h3, h4, h5, h6, h7, h8, h9⟩ := g.free he
    rw [if_pos he, if_pos he, he, e, h4]
    rw [h4, h5] at C
    obtain ⟨g0, g1, g2, g3⟩ := ga_at (s := k) (p := p) h1 (by omega) h3 (g.ok.cr k).2 h6
    have hroom := place_room (p := (p : Int)) (c := a.cls k) (by omega) h6
    have hgw : 2 ≤ gw (a.cls k) := by rcases gw_gp (a.cls k) with ⟨_, x⟩ | ⟨_, x, _⟩ <;> omega
    obtain ⟨x, hx⟩ := Int.eq_ofNat_of_zero_le (show 0 ≤ ga k p (a.cls k) by omega)
    obtain ⟨v, hv⟩ := Int.eq_ofNat_of_zero_le (show 0 ≤ gw (a.cls k) by omega)
    have hxv : x + v ≤ a.n * 64 := by omega
    have hlw := h.lw
    have hp64 : p < 64 := by rcases gw_gp (a.cls k) with ⟨_, y⟩ | ⟨_, _, _, _, y, _⟩ <;> omega
    have htb := g.tkb k
    have F : ∀ w1, G w w1 → Calls Tryz.prog 102 #[.int .u64 (a.tk k : Int)] w1 fun e w' => e = .returned (.int .i64 (p : Int)) ∧ w' = w1 := by
      intro w1 g1
      have := first_any (a.tk k) w1 (by omega) (tab.later g1)
      rw [h5] at e
      unfold freeN at e
      rw [e] at this
      exact this
    rw [hx]
    refine (take_some w d.ab d.wb d.sb a.n d.cw d.cs (a.n * 64) k p x v (a.tk k ||| 2 ^ p) (a.tk k) (a.mrI k : Int) (a.cls k) h2 (by simp; omega) (by simpa using h9)
      (hide h.c0) (hide h.c1) (hide (h.s1 k h2)) (hide (h.fs _)) (hide hv) (hide hx) (by omega) (by omega) (by omega)
      (hide fun j hj => by rw [h.wd (x + j) (by omega)]; rfl) (hide fun j hj => h.fw _) h.n12 (h.lt1 g.ok.n0) (hide C) (hide F) (hide fun w => bitset_any (a.tk k) p w htb hp64)).mono ?_
    rintro e w' ⟨rfl, w1, g1, g2⟩
    have k1 := h.grown g.ok.n0 g1
    refine ⟨rfl, ?_, (((Tn.of_G g1).set _ _ (Or.inr rfl)).sets _ _ _).G g2⟩
    simp only [Int.toNat_natCast]
    refine AreAt.grown (w := (w1.setCell ⟨d.sb, k * 3 + 1, none⟩ (.int .u64 ((a.tk k ||| 2 ^ p : Nat) : Int))).setCells d.wb x (List.replicate v (.int .i64 0))) ?_ g.ok.n0 g2
    have k2 : AreAt (w1.setCell ⟨d.sb, k * 3 + 1, none⟩ (.int .u64 ((a.tk k ||| 2 ^ p : Nat) : Int))) B d { a with tk := upd a.tk k (a.tk k ||| 2 ^ p) } := by
      refine k1.span (s := k) rfl rfl (fun t ht => ⟨rfl, upd_other _ _ ht, rfl⟩) ?_ ?_ ?_ ?_ ?_
      · intro b i hb
        rw [cell_other _ (by omega)]
      · intro b i
        rw [World.frozen?_setCell]
      · rw [cell_other _ (by omega), k1.s0 k h2]
      · rw [cell_same _ (k1.s1 k h2)]
        simp [upd]
      · rw [cell_other _ (by omega), k1.s2 k h2]
    have o : ∀ b i, b ≠ d.wb ∨ i < x ∨ x + v ≤ i → ((w1.setCell ⟨d.sb, k * 3 + 1, none⟩ (.int .u64 ((a.tk k ||| 2 ^ p : Nat) : Int))).setCells d.wb x (List.replicate v (.int .i64 0))).cell? ⟨b, i, none⟩ = (w1.setCell ⟨d.sb, k * 3 + 1, none⟩ (.int .u64 ((a.tk k ||| 2 ^ p : Nat) : Int))).cell? ⟨b, i, none⟩ := by
      intro b i hb
      refine World.cell?_setCells_out _ _ _ _ _ (fun e1 _ => ?_)
      simp only [List.length_replicate]
      simp only at e1
      omega
    refine ⟨(o _ _ (Or.inl h.n01)).trans k2.c0, (o _ _ (Or.inl h.n01)).trans k2.c1, ?_, fun s hs => (o _ _ (Or.inl (Ne.symm h.n12))).trans (k2.s0 s hs), fun s hs => (o _ _ (Or.inl (Ne.symm h.n12))).trans (k2.s1 s hs), fun s hs => (o _ _ (Or.inl (Ne.symm h.n12))).trans (k2.s2 s hs),
      fun i => by rw [World.frozen?_setCells]; exact k2.fw i, fun i => by rw [World.frozen?_setCells]; exact k2.fs i, h.b0, h.b1, h.b2, h.n01, h.n02, h.n12, h.lw, h.ls, h.hcw, h.hcs⟩
    intro i hi
    show _ = some (Value.int .i64 (if ga k p (a.cls k) ≤ (i : Int) ∧ (i : Int) < ga k p (a.cls k) + gw (a.cls k) then 0 else a.wd i))
    rw [hx, hv]
    by_cases hi2 : x ≤ i ∧ i < x + v
    · rw [if_pos (by omega)]
      obtain ⟨j, rfl⟩ : ∃ j, i = x + j := ⟨i - x, by omega⟩
      rw [World.cell?_setCells_in _ _ _ _ (fun j hj => by simp only [List.length_replicate] at hj; rw [k2.wd (x + j) (by show x + j < a.n * 64; omega)]; rfl) j (by simp only [List.length_replicate]; omega)]
      simp
    · rw [if_neg (by omega), o _ _ (Or.inr (by omega))]
      exact k2.wd i hi
  · rw [if_neg he, if_neg he]
    by_cases hc : a.clsI s < 0
    · have e4 : a.takeE s = 4 := by unfold Ab.takeE; rw [if_pos hc]
      rw [e4]
      rw [show a.clsI s = -1 by omega] at C
      refine (take_none w _ s _ _ (hide C)).mono ?_
      rintro e w' ⟨rfl, g1⟩
      exact ⟨rfl, h.grown g.ok.n0 g1, Tn.of_G g1⟩
    · have hf : (a.tkI s : Int) = gf (a.clsI s) := by
        apply Classical.byContradiction
        intro hf
        apply he
        unfold Ab.takeE
        rw [if_neg hc, if_neg hf]
      have e5 : a.takeE s = 5 := by unfold Ab.takeE; rw [if_neg hc, if_pos hf]
      rw [e5]
      refine (take_full w _ s _ _ _ (by simp; omega) (by simpa using hf) (hide C)).mono ?_
      rintro e w' ⟨rfl, g1⟩
      exact ⟨rfl, h.grown g.ok.n0 g1, Tn.of_G g1⟩
end Go.Proofs.YtgflkpccddfalaaGreatDoor
