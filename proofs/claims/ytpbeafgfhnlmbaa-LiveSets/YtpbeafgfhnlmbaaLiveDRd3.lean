/- The document's own Reads: a select's. -/
import Derived.Test.YtpbeafgfhnlmbaaLiveDRd2
import Derived.Test.YtpbeafgfhnlmbaaLiveDoc
namespace Go.Proofs.Ytpbeafgfhnlmbaa
set_option maxRecDepth 100000
open Go.RowKit Go.Maps Go.ChangeShapes Go.WideShapes Go.ChangeAt Go.Deep

/-- A round of the walk over a select's cases. -/
theorem sel_step {x1 : World} {qo : Option Addr} {n qc : Nat} {l : List Ca} (hr : RowAt elCa x1 qo n qc l) (hn : n ≤ 1000000) (k : Nat) (wr : World) (vb : Value) (hk : k < n) (H : OwnL wr x1.heap.size vb ((l.take k).flatMap crP) ∧ G x1 wr) :
    ∃ (b off : Nat) (s : Ca), qo = some ⟨b, off, none⟩ ∧ wr.cell? ⟨b, off + k * 4, none⟩ = some (.int .i64 s.k) ∧ wr.cell? ⟨b, off + k * 4 + 1, none⟩ = some (.int .i64 s.c) ∧ wr.cell? ⟨b, off + k * 4 + 2, none⟩ = some (.int .i64 s.v) ∧
      (s.k = 2 → OwnL wr x1.heap.size vb ((l.take (k + 1)).flatMap crP) ∧ G x1 wr) ∧
      (s.k ≠ 2 → ∃ v' y', (Builtin.append_ #[32, 32] 32 #[vb, .slice (some ⟨wr.heap.size, 0, none⟩) 1 1]).run Try.prog (wr.alloc (.cells #[.int .i64 s.c] 3)) = .ok v' y' ∧ y'.cell? ⟨b, off + k * 4, none⟩ = some (.int .i64 s.k) ∧ y'.cell? ⟨b, off + k * 4 + 2, none⟩ = some (.int .i64 s.v) ∧ (s.k ≠ 1 → OwnL y' x1.heap.size v' ((l.take (k + 1)).flatMap crP) ∧ G x1 y') ∧
        (s.k = 1 → ∃ v2 y2, (Builtin.append_ #[32, 32] 32 #[v', .slice (some ⟨y'.heap.size, 0, none⟩) 1 1]).run Try.prog (y'.alloc (.cells #[.int .i64 s.v] 3)) = .ok v2 y2 ∧ OwnL y2 x1.heap.size v2 ((l.take (k + 1)).flatMap crP) ∧ G x1 y2)) := by
  obtain ⟨b, off, s, cs, e, ha, ecs, hcs⟩ := row_get hr hk
  have ecs : cs = [.int .i64 s.k, .int .i64 s.c, .int .i64 s.v, .int .i64 s.t] := ecs
  subst ecs
  have hlen := cr_len (l.take k)
  rw [List.length_take] at hlen
  have ht : (l.take (k + 1)).flatMap crP = (l.take k).flatMap crP ++ crP s := by rw [List.take_add_one, ha]; simp
  refine ⟨b, off, s, e, hcs wr H.2 0 _ rfl, hcs wr H.2 1 _ rfl, hcs wr H.2 2 _ rfl, fun h2 => ?_, fun h2 => ?_⟩
  · rw [ht, crP, if_pos h2, List.append_nil]
    exact H
  · obtain ⟨v', y', r1, r2, r3⟩ := int_step s.c H.1 (by omega) H.2
    refine ⟨v', y', r1, hcs y' r3 0 _ rfl, hcs y' r3 2 _ rfl, fun h1 => ?_, fun h1 => ?_⟩
    · rw [ht, crP, if_neg h2, if_neg h1]
      exact ⟨r2, r3⟩
    · obtain ⟨v2, y2, t1, t2, t3⟩ := int_step s.v r2 (by rw [List.length_append, List.length_singleton]; omega) r3
      refine ⟨v2, y2, t1, ?_, t3⟩
      rw [ht, crP, if_neg h2, if_pos h1]
      rw [List.append_assoc] at t2
      exact t2

set_option maxHeartbeats 1000000 in
theorem rreads_41 (w : World) (m : Md) (so : Option Addr) (sc : Nat) (go : Option Addr) (gc : Nat) (co : Option Addr) (cc : Nat) (ao : Option Addr) (ac : Nat) (fo : Option Addr) (fc : Nat) (h : ModR w m so sc go gc co cc ao ac fo fc) (A B C D : Int) (oA : oI A) (oB : oI B) (hn : m.ca.length ≤ 1000000) : Calls Try.prog 17 #[agM m so sc go gc co cc ao ac fo fc, agI ⟨41, A, B, C, D⟩] w (LTo w (rdP m ⟨41, A, B, C, D⟩)) := by
  obtain ⟨W2, hW2⟩ : ∃ W2, W2 = ((w.alloc (.cells #[.slice so m.sh.length sc, .slice go m.gl.length gc, .slice co m.co.length cc, .slice ao m.ca.length ac, .slice fo m.fn.length fc, .int .i64 m.main] 48)).alloc (.cells #[.int .i64 41, .int .i64 A, .int .i64 B, .int .i64 C, .int .i64 D] 54)) := ⟨_, rfl⟩
  have gW : G w W2 := by rw [hW2]; exact (G.alloc _ _).more _
  have CO := hide (rcases_any W2 m so sc go gc co cc ao ac fo fc (h.g gW) ⟨41, A, B, C, D⟩ oA oB)
  have FI : Hid (rdP m ⟨41, A, B, C, D⟩ = (casesP m A B).flatMap crP) := hide (by rfl)
  have HL : Hid ((casesP m A B).length ≤ 1000000) := hide (by unfold casesP; split; simp; rw [List.length_take, List.length_drop]; omega)
  have GW := hide gW
  have m0 : W2.cell? ⟨w.heap.size, 0, none⟩ = some (.slice so m.sh.length sc) := by rw [hW2]; simp [go_sem]
  have m1 : W2.cell? ⟨w.heap.size, 1, none⟩ = some (.slice go m.gl.length gc) := by rw [hW2]; simp [go_sem]
  have m2 : W2.cell? ⟨w.heap.size, 2, none⟩ = some (.slice co m.co.length cc) := by rw [hW2]; simp [go_sem]
  have m3 : W2.cell? ⟨w.heap.size, 3, none⟩ = some (.slice ao m.ca.length ac) := by rw [hW2]; simp [go_sem]
  have m4 : W2.cell? ⟨w.heap.size, 4, none⟩ = some (.slice fo m.fn.length fc) := by rw [hW2]; simp [go_sem]
  have m5 : W2.cell? ⟨w.heap.size, 5, none⟩ = some (.int .i64 m.main) := by rw [hW2]; simp [go_sem]
  have i0 : W2.cell? ⟨w.heap.size + 1, 0, none⟩ = some (.int .i64 41) := by rw [hW2]; simp [go_sem]
  have i1 : W2.cell? ⟨w.heap.size + 1, 1, none⟩ = some (.int .i64 A) := by rw [hW2]; simp [go_sem]
  have i2 : W2.cell? ⟨w.heap.size + 1, 2, none⟩ = some (.int .i64 B) := by rw [hW2]; simp [go_sem]
  have i3 : W2.cell? ⟨w.heap.size + 1, 3, none⟩ = some (.int .i64 C) := by rw [hW2]; simp [go_sem]
  have i4 : W2.cell? ⟨w.heap.size + 1, 4, none⟩ = some (.int .i64 D) := by rw [hW2]; simp [go_sem]
  clear h gW hn oA oB
  unfold agM agI at CO
  unfold agM agI
  go_enter Try.func17, Try.ntmps17
  go_upto_region 1 with fail
  rw [← hW2]
  clear hW2
  go_wp2_with fail
  refine (unhide CO).mono ?_
  rintro e x1 ⟨qo, qc, q, rfl, hr, hg1⟩
  have hlb := unhide HL
  have STEP := hide (sel_step hr hlb)
  have ST : Hid (OwnL x1 x1.heap.size (.slice none 0 0) (((casesP m A B).take 0).flatMap crP) ∧ G x1 x1) := hide ⟨ownl_nil _ _, G.refl x1⟩
  have FIN : Hid (∀ wr vb, (OwnL wr x1.heap.size vb (((casesP m A B).take (casesP m A B).length).flatMap crP) ∧ G x1 wr) → LTo w (rdP m ⟨41, A, B, C, D⟩) (.returned vb) wr) := hide fun wr vb HW => by
    rw [List.take_of_length_le (Nat.le_refl _)] at HW
    rw [unhide FI]
    exact ⟨vb, rfl, HW.1.isl, ((unhide GW).trans hg1).trans HW.2⟩
  obtain ⟨l, hl⟩ : ∃ l, l = casesP m A B := ⟨_, rfl⟩
  rw [← hl] at STEP ST FIN hlb ⊢
  obtain ⟨n, hln⟩ : ∃ n, n = l.length := ⟨_, rfl⟩
  rw [← hln] at STEP FIN hlb ⊢
  clear CO hr hg1 hl hln FI HL GW m0 m1 m2 m3 m4 m5 i0 i1 i2 i3 i4
  go_wp2_with fail
  go_loopw [6, 9] (fun b i wr => ∃ k : Nat, k ≤ n ∧ i = .int .i64 k ∧ Hid (OwnL wr x1.heap.size b ((l.take k).flatMap crP) ∧ G x1 wr)) (fun _ i _ => n - (intOf i).toNat)
  case atStart => exact ⟨0, Nat.zero_le _, rfl, ST⟩
  case round =>
    obtain ⟨k, hk, rfl, HW⟩ := hrel
    clear ST
    by_cases hlt : k < n
    · have hki : (k : Int) < (n : Int) := by omega
      have hw : wrap64 ((k : Int) + 1) = (k : Int) + 1 := by unfold wrap64; omega
      obtain ⟨b, off, s, rfl, c0, c1, c2, S2, S3⟩ := unhide STEP k wr _ hlt (unhide HW)
      replace S3 := hide S3
      clear STEP FIN HW
      by_cases h2 : s.k = 2
      · have HG := hide (S2 h2)
        rw [h2] at c0
        clear S2 S3
        go_wp2_with fail
        go_roundw
        case rel => exact ⟨k + 1, hlt, by go_num, HG⟩
        case measure => exact dec_ltW n k hlt
      · obtain ⟨v1, y1, hr1, d0, d2, S4, S5⟩ := unhide S3 h2
        have hr1 := hide hr1
        have b2 : (s.k == 2) = false := beq_eq_false_iff_ne.2 h2
        have b2' : (s.k != 2) = true := by simp [bne, b2]
        by_cases h1 : s.k = 1
        · obtain ⟨v2, y2, hr2, HG⟩ := S5 h1
          have hr2 := hide hr2
          replace HG := hide HG
          clear S2 S3 S4 S5
          rw [h1] at c0 d0
          go_wp2_with (at_builtin; first | (refine wpl_run rfl (.tmp 201) (.tmp 207) 32 rfl _ _ rfl rfl _ _ (unhide hr1) ?_) | (refine wpl_run rfl (.tmp 215) (.tmp 221) 32 rfl _ _ rfl rfl _ _ (unhide hr2) ?_))
          go_roundw
          case rel => exact ⟨k + 1, hlt, by go_num, HG⟩
          case measure => exact dec_ltW n k hlt
        · have HG := hide (S4 h1)
          have b1 : (s.k == 1) = false := beq_eq_false_iff_ne.2 h1
          clear S2 S3 S4 S5
          go_wp2_with (at_builtin; refine wpl_run rfl (.tmp 201) (.tmp 207) 32 rfl _ _ rfl rfl _ _ (unhide hr1) ?_)
          go_roundw
          case rel => exact ⟨k + 1, hlt, by go_num, HG⟩
          case measure => exact dec_ltW n k hlt
    · obtain rfl : k = n := by omega
      have K := hide (unhide FIN wr _ (unhide HW))
      clear HW FIN STEP
      go_wp2_with fail
      refine bodyPost_ret (by simp [results, Try.results17, go_sem]; try rfl) rfl ?_
      exact unhide K

theorem rreads_any (w : World) (m : Md) (so : Option Addr) (sc : Nat) (go : Option Addr) (gc : Nat) (co : Option Addr) (cc : Nat) (ao : Option Addr) (ac : Nat) (fo : Option Addr) (fc : Nat) (h : ModR w m so sc go gc co cc ao ac fo fc) (i : In) (oi : oIn i) (hn : m.ca.length ≤ 1000000) : Calls Try.prog 17 #[agM m so sc go gc co cc ao ac fo fc, agI i] w (LTo w (rdP m i)) := by
  obtain ⟨op, A, B, C, D⟩ := i
  by_cases h1 : op = 1
  · subst h1; exact rreads_1 w m so sc go gc co cc ao ac fo fc A B C D
  by_cases h17 : op = 17
  · subst h17; exact rreads_17 w m so sc go gc co cc ao ac fo fc A B C D
  by_cases h27 : op = 27
  · subst h27; exact rreads_27 w m so sc go gc co cc ao ac fo fc A B C D
  by_cases h33 : op = 33
  · subst h33; exact rreads_33 w m so sc go gc co cc ao ac fo fc A B C D
  by_cases h35 : op = 35
  · subst h35; exact rreads_35 w m so sc go gc co cc ao ac fo fc A B C D
  by_cases h39 : op = 39
  · subst h39; exact rreads_39 w m so sc go gc co cc ao ac fo fc A B C D
  by_cases h3 : op = 3
  · subst h3; exact rreads_3 w m so sc go gc co cc ao ac fo fc A B C D
  by_cases h4 : op = 4
  · subst h4; exact rreads_4 w m so sc go gc co cc ao ac fo fc A B C D
  by_cases h5 : op = 5
  · subst h5; exact rreads_5 w m so sc go gc co cc ao ac fo fc A B C D
  by_cases h6 : op = 6
  · subst h6; exact rreads_6 w m so sc go gc co cc ao ac fo fc A B C D
  by_cases h7 : op = 7
  · subst h7; exact rreads_7 w m so sc go gc co cc ao ac fo fc A B C D
  by_cases h8 : op = 8
  · subst h8; exact rreads_8 w m so sc go gc co cc ao ac fo fc A B C D
  by_cases h9 : op = 9
  · subst h9; exact rreads_9 w m so sc go gc co cc ao ac fo fc A B C D
  by_cases h10 : op = 10
  · subst h10; exact rreads_10 w m so sc go gc co cc ao ac fo fc A B C D
  by_cases h11 : op = 11
  · subst h11; exact rreads_11 w m so sc go gc co cc ao ac fo fc A B C D
  by_cases h12 : op = 12
  · subst h12; exact rreads_12 w m so sc go gc co cc ao ac fo fc A B C D
  by_cases h13 : op = 13
  · subst h13; exact rreads_13 w m so sc go gc co cc ao ac fo fc A B C D
  by_cases h14 : op = 14
  · subst h14; exact rreads_14 w m so sc go gc co cc ao ac fo fc A B C D
  by_cases h15 : op = 15
  · subst h15; exact rreads_15 w m so sc go gc co cc ao ac fo fc A B C D
  by_cases h16 : op = 16
  · subst h16; exact rreads_16 w m so sc go gc co cc ao ac fo fc A B C D
  by_cases h30 : op = 30
  · subst h30; exact rreads_30 w m so sc go gc co cc ao ac fo fc A B C D
  by_cases h19 : op = 19
  · subst h19; exact rreads_19 w m so sc go gc co cc ao ac fo fc A B C D
  by_cases h40 : op = 40
  · subst h40; exact rreads_40 w m so sc go gc co cc ao ac fo fc A B C D
  by_cases h42 : op = 42
  · subst h42; exact rreads_42 w m so sc go gc co cc ao ac fo fc A B C D
  by_cases h26 : op = 26
  · subst h26; exact rreads_26 w m so sc go gc co cc ao ac fo fc A B C D
  by_cases h37 : op = 37
  · subst h37; exact rreads_37 w m so sc go gc co cc ao ac fo fc A B C D
  by_cases h28 : op = 28
  · subst h28; exact rreads_28 w m so sc go gc co cc ao ac fo fc A B C D
  by_cases h29 : op = 29
  · subst h29; exact rreads_29 w m so sc go gc co cc ao ac fo fc A B C D
  by_cases h31 : op = 31
  · subst h31; exact rreads_31 w m so sc go gc co cc ao ac fo fc A B C D
  by_cases h32 : op = 32
  · subst h32; exact rreads_32 w m so sc go gc co cc ao ac fo fc A B C D
  by_cases h38 : op = 38
  · subst h38; exact rreads_38 w m so sc go gc co cc ao ac fo fc A B C D
  by_cases h22 : op = 22
  · subst h22; exact rreads_22 w m so sc go gc co cc ao ac fo fc A B C D
  by_cases h21 : op = 21
  · subst h21; exact rreads_21 w m so sc go gc co cc ao ac fo fc A B C D
  by_cases h24 : op = 24
  · subst h24; exact rreads_24 w m so sc go gc co cc ao ac fo fc A B C D
  by_cases h20 : op = 20
  · subst h20; exact rreads_20 w m so sc go gc co cc ao ac fo fc h A B C D
  by_cases h23 : op = 23
  · subst h23; exact rreads_23 w m so sc go gc co cc ao ac fo fc h A B C D
  by_cases h36 : op = 36
  · subst h36; exact rreads_36 w m so sc go gc co cc ao ac fo fc h A B C D
  by_cases h41 : op = 41
  · subst h41; exact rreads_41 w m so sc go gc co cc ao ac fo fc h A B C D oi.2.1 oi.2.2.1 hn
  have hop : ∀ k ∈ ([1, 17, 27, 33, 35, 39, 30, 19, 40, 42, 26, 37, 28, 29, 31, 32, 38, 22, 20, 21, 23, 24, 36, 41] : List Int), op ≠ k := by
    intro k hk
    simp only [List.mem_cons, List.not_mem_nil, or_false] at hk
    omega
  by_cases hs : op < 3
  · exact rreads_lo w m so sc go gc co cc ao ac fo fc op A B C D hs hop
  · exact rreads_hi w m so sc go gc co cc ao ac fo fc op A B C D (by omega) hop
end Go.Proofs.Ytpbeafgfhnlmbaa
