/- The contracts of an Alloc's Stale, Unswept, Used and New; made() of package gantlinelaw5. -/
import Derived.Test.YtgflkpccddfalaaGreatDoorAllocCalls
namespace Go.Proofs.YtgflkpccddfalaaGreatDoor
set_option maxRecDepth 100000
open Go.RowKit Go.Maps Go.ChangeShapes Go.WideShapes Go.ChangeAt

section
variable {W w : World} {x : Ld} {l : Al}

/-! ### Unswept -/
/-! ### Stale -/
/-- The first j are made stale. -/
def Al.stl (l : Al) (j : Nat) : Al := ⟨l.a, fun s => (decide (s < j) && decide (0 ≤ l.a.clsI s)) || l.u s⟩
theorem Al.stl_zero (l : Al) : l.stl 0 = l := by
  unfold Al.stl
  simp
theorem Al.stl_skip (l : Al) {j : Nat} (hc : ¬ 0 ≤ l.a.clsI j) : l.stl (j + 1) = l.stl j := by
  unfold Al.stl
  congr 1
  funext s
  by_cases e : s = j
  · subst e; simp [hc]
  · have : decide (s < j + 1) = decide (s < j) := by simp; omega
    rw [this]
theorem Al.stl_set (l : Al) {j : Nat} (hc : 0 ≤ l.a.clsI j) : l.stl (j + 1) = ⟨l.a, upd (l.stl j).u j true⟩ := by
  unfold Al.stl
  congr 1
  funext s
  by_cases e : s = j
  · subst e; rw [upd_same]; simp [hc]
  · rw [upd_other _ _ e]
    have : decide (s < j + 1) = decide (s < j) := by simp; omega
    rw [this]

set_option maxHeartbeats 1000000 in
theorem l_stale_core (n ub cu : Nat) (hn5 : n ≤ 512) (hn : Hid (l.a.n = n)) (hub : Hid (x.ub = ub)) (hcu : Hid (x.cu = cu)) (h : Hid (StL W w x l)) :
    Calls Tryz.prog 88 #[.pointer (some ⟨x.lb, 0, none⟩)] w fun e w' => e = .returned (.tuple #[]) ∧ StL W w' x (l.stl n) ∧ TnL w w' x := by
  have c1 : w.cell? ⟨x.lb, 1, none⟩ = some (.slice (some ⟨ub, 0, none⟩) n cu) := by rw [← unhide hub, ← unhide hcu, ← unhide hn]; exact (unhide h).c1
  have R0 : Hid (StL W w x (l.stl 0) ∧ TnL w w x) := hide ⟨by rw [Al.stl_zero]; exact unhide h, TnL.refl _ _⟩
  clear h
  go_enter Tryz.func88, Tryz.ntmps88
  go_wp2_with fail
  go_loopw [8] (fun i wr => ∃ (j : Nat), j ≤ n ∧ i = .int .i64 j ∧ Hid (StL W wr x (l.stl j) ∧ TnL w wr x)) (fun i _ => n - (intOf i).toNat)
  case atStart => exact ⟨0, Nat.zero_le _, rfl, R0⟩
  case round =>
    obtain ⟨j, hj, rfl, R⟩ := hrel
    clear R0 c1
    by_cases hjn : j = n
    · subst hjn
      go_wp2_with fail
      go_end0
      exact ⟨rfl, (unhide R).1, (unhide R).2⟩
    · have hjl : (j : Int) < (n : Int) := by omega
      have hjn' : j < l.a.n := by rw [unhide hn]; omega
      go_wp2_with fail
      refine (l_classed (hide (unhide R).1) j).mono ?_
      rintro e w3 ⟨rfl, S, g⟩
      have ea : (l.stl j).a = l.a := rfl
      rw [ea]
      by_cases hc : 0 ≤ l.a.clsI j
      · have hd : decide (0 ≤ l.a.clsI j) = true := by simpa using hc
        rw [hd]
        have c1 : w3.cell? ⟨x.lb, 1, none⟩ = some (.slice (some ⟨ub, 0, none⟩) n cu) := by rw [← unhide hub, ← unhide hcu, ← unhide hn]; exact S.c1
        have u1 : w3.cell? ⟨ub, j, none⟩ = some (.bool ((l.stl j).u j)) := by rw [← unhide hub]; exact S.us j hjn'
        have f1 : w3.frozen? ⟨ub, j, none⟩ = false := by rw [← unhide hub]; exact S.fu j
        have RR : Hid (StL W (w3.setCell ⟨ub, j, none⟩ (.bool true)) x (l.stl (j + 1)) ∧ TnL w (w3.setCell ⟨ub, j, none⟩ (.bool true)) x) := hide (by
          rw [Al.stl_set l hc, ← unhide hub]
          exact ⟨S.setU hjn' true, ((unhide R).2.G g).set j _⟩)
        generalize (l.stl j).u j = uu at u1
        clear S g R hjn'
        go_wp2_with fail
        go_roundw
        case rel => exact ⟨j + 1, by omega, by go_num, RR⟩
        case measure => simp [intOf]; omega
      · have hd : decide (0 ≤ l.a.clsI j) = false := by simpa using hc
        rw [hd]
        have RR : Hid (StL W w3 x (l.stl (j + 1)) ∧ TnL w w3 x) := hide (by
          rw [Al.stl_skip l hc]
          exact ⟨S, (unhide R).2.G g⟩)
        clear S g R hjn'
        go_wp2_with fail
        go_roundw
        case rel => exact ⟨j + 1, by omega, by go_num, RR⟩
        case measure => simp [intOf]; omega
theorem l_stale (h : Hid (StL W w x l)) :
    Calls Tryz.prog 88 #[.pointer (some ⟨x.lb, 0, none⟩)] w fun e w' => e = .returned (.tuple #[]) ∧ StL W w' x l.stale ∧ TnL w w' x :=
  (l_stale_core l.a.n x.ub x.cu (unhide h).st.n512 (hide rfl) (hide rfl) (hide rfl) h).mono fun _ _ hh => ⟨hh.1, hh.2.1.same rfl (fun s hs => by
    show (decide (0 ≤ l.a.clsI s) || l.u s) = (decide (s < l.a.n) && decide (0 ≤ l.a.clsI s) || l.u s)
    have hs' : s < l.a.n := hs
    have : decide (s < l.a.n) = true := by simpa using hs'
    rw [this, Bool.true_and]), hh.2.2⟩

/-! ### Used -/
theorem used_bound {a : Ab} : ∀ k, 0 ≤ a.used k ∧ a.used k ≤ 4096 * k
  | 0 => by unfold Ab.used; omega
  | k + 1 => by
    have h := used_bound (a := a) k
    have h1 := popF_le 64 (a.tkI (k : Nat))
    have h2 : 0 ≤ gw (a.clsI (k : Nat)) ∧ gw (a.clsI (k : Nat)) ≤ 64 := by rcases gw_gp (a.clsI (k : Nat)) with ⟨e, _⟩ | ⟨_, e1, e2, _⟩ <;> omega
    have h3 : 0 ≤ (popF 64 (a.tkI (k : Nat)) : Int) * gw (a.clsI (k : Nat)) := Int.mul_nonneg (by omega) h2.1
    have h4 : (popF 64 (a.tkI (k : Nat)) : Int) * gw (a.clsI (k : Nat)) ≤ 64 * 64 := Int.mul_le_mul (by omega) h2.2 h2.1 (by decide)
    unfold Ab.used
    omega

set_option maxHeartbeats 1000000 in
theorem l_used_core (n : Nat) (hn5 : n ≤ 512) (hn : Hid (l.a.n = n)) (h : Hid (StL W w x l)) :
    Calls Tryz.prog 90 #[.pointer (some ⟨x.lb, 0, none⟩)] w fun e w' => e = .returned (.int .i64 (l.a.used n)) ∧ StL W w' x l ∧ G w w' := by
  have c0 := (unhide h).c0
  have hsp := hide (ls_spans h)
  rw [unhide hn] at hsp
  go_enter Tryz.func90, Tryz.ntmps90
  go_wp2_with fail
  refine (unhide hsp).mono ?_
  rintro e w2 ⟨rfl, hw⟩
  subst hw
  clear hsp c0
  go_wp2_with fail
  go_loopw [3, 11] (fun a i wr => ∃ (j : Nat) (v : Int), j ≤ n ∧ 0 ≤ v ∧ v ≤ 4096 * j ∧ a = .int .i64 v ∧ i = .int .i64 j ∧ Hid (l.a.used j = v) ∧ Hid (StL W wr x l ∧ G w2 wr)) (fun _ i _ => n - (intOf i).toNat)
  case atStart => exact ⟨0, 0, Nat.zero_le _, Int.le_refl _, by omega, rfl, rfl, hide rfl, hide ⟨unhide h, G.refl _⟩⟩
  case round =>
    obtain ⟨j, v, hj, hv0, hv1, rfl, rfl, E, R⟩ := hrel
    clear h
    by_cases hjn : j = n
    · subst hjn
      go_wp2_with fail
      go_ret
      exact ⟨by rw [unhide E]; rfl, (unhide R).1, (unhide R).2⟩
    · have hjl : (j : Int) < (n : Int) := by omega
      have hb := used_bound (a := l.a) (j + 1)
      have E2 : Hid (l.a.used (j + 1) = v + popF 64 (l.a.tkI (j : Nat)) * gw (l.a.clsI (j : Nat))) := hide (by rw [← unhide E]; rfl)
      rw [unhide E2] at hb
      have htk := hide ((unhide R).1.st.good.tkIb (j : Nat))
      have c0 := (unhide R).1.c0
      have S := hide (unhide R).1
      have g := hide (unhide R).2
      clear R E
      go_wp2_with fail
      refine (ls_taken S j).mono ?_
      rintro e w3 ⟨rfl, S3, g3⟩
      replace g := hide ((unhide g).trans g3)
      replace S3 := hide S3
      clear S g3 c0
      go_wp2_with fail
      refine (ones64_any _ _ (by have := unhide htk; omega)).mono ?_
      have hp := popF_le 64 (l.a.tkI (j : Nat))
      generalize popF 64 (l.a.tkI (j : Nat)) = p at E2 hb hp
      rintro e w4 ⟨rfl, hw⟩
      subst hw
      have c0 := (unhide S3).c0
      go_wp2_with fail
      refine (ls_cls S3 j).mono ?_
      rintro e w5 ⟨rfl, S5, g5⟩
      replace g := hide ((unhide g).trans g5)
      replace S5 := hide S5
      clear S3 g5 c0
      go_wp2_with fail
      refine (words_any _ _).mono ?_
      have h2 : 0 ≤ gw (l.a.clsI (j : Nat)) ∧ gw (l.a.clsI (j : Nat)) ≤ 64 := by rcases gw_gp (l.a.clsI (j : Nat)) with ⟨e, _⟩ | ⟨_, e1, e2, _⟩ <;> omega
      generalize gw (l.a.clsI (j : Nat)) = q at E2 hb h2
      rintro e w6 ⟨rfl, hw⟩
      subst hw
      have h3 : 0 ≤ (p : Int) * q := Int.mul_nonneg (by omega) h2.1
      have h4 : (p : Int) * q ≤ 64 * 64 := Int.mul_le_mul (by omega) h2.2 h2.1 (by decide)
      go_wp2_with fail
      go_roundw
      case rel => exact ⟨j + 1, v + p * q, by omega, by omega, by omega, by go_num, by go_num, E2, hide ⟨unhide S5, unhide g⟩⟩
      case measure => simp [intOf]; omega
theorem l_used (h : Hid (StL W w x l)) :
    Calls Tryz.prog 90 #[.pointer (some ⟨x.lb, 0, none⟩)] w fun e w' => e = .returned (.int .i64 (l.a.used l.a.n)) ∧ StL W w' x l ∧ G w w' :=
  l_used_core l.a.n (unhide h).st.n512 (hide rfl) h
end

/-! ### New -/
theorem info_bool : (Tryz.prog.info? 4).map (fun i => (i.zero, i.size, i.bytes)) = some (some (.bool false), 1, 1) := by kernel_rfl
theorem mk_bools (n : Nat) (hn : n ≤ 512) (w : World) : (Instr.makeSlice 124 (.int .i64 (n : Int)) (.int .i64 (n : Int))).run Tryz.prog w =
    .ok (.slice (some ⟨w.heap.size, 0, none⟩) n n) (w.alloc (.cells (madeCells #[.bool false] (n * 1)) 4)) := by
  obtain ⟨i0, hi0, hz0, hz1, hz2⟩ := info_parts info_bool
  have := run_make (P := Tryz.prog) w 124 4 i0 (.bool false) Tryz.underlying124 hi0 hz0 .i64 .i64 (n : Int) (n : Int) (by omega) (Int.le_refl _) (by rw [hz2]; omega) (by omega)
  rw [this, hz1]
  simp only [Int.toNat_natCast]
  rfl
theorem bools_at {w : World} {b n : Nat} (hb : w.heap[b]? = some (.cells (madeCells #[.bool false] (n * 1)) 4 (0, 0))) : (∀ s, s < n → w.cell? ⟨b, s, none⟩ = some (.bool false)) ∧ ∀ i, w.frozen? ⟨b, i, none⟩ = false := by
  refine ⟨fun s hs => ?_, fun i => by simp [World.frozen?, hb]⟩
  have := made_get #[.bool false] (n * 1) s (by omega)
  simp only [World.cell?, hb]
  rw [this]
  simp [Nat.mod_one]

theorem lnew_at {W w : World} {d : Ad} {n : Nat} (C : Array Value) (h : St W w d (ab0 n)) (H : ∀ (w : World) b, w.heap[b]? = some (.cells C 4 (0, 0)) → (∀ s, s < n → w.cell? ⟨b, s, none⟩ = some (.bool false)) ∧ ∀ i, w.frozen? ⟨b, i, none⟩ = false) :
    StL W ((w.alloc (.cells C 4)).alloc (.cells #[.pointer (some ⟨d.ab, 0, none⟩), .slice (some ⟨w.heap.size, 0, none⟩) n n] 127)) ⟨w.heap.size + 1, w.heap.size, n, d⟩ (al0 n) ∧
    G w ((w.alloc (.cells C 4)).alloc (.cells #[.pointer (some ⟨d.ab, 0, none⟩), .slice (some ⟨w.heap.size, 0, none⟩) n n] 127)) := by
  have g : G w ((w.alloc (.cells C 4)).alloc (.cells #[.pointer (some ⟨d.ab, 0, none⟩), .slice (some ⟨w.heap.size, 0, none⟩) n n] 127)) := (G.alloc w _).more _
  have b1 : ((w.alloc (.cells C 4)).alloc (.cells #[.pointer (some ⟨d.ab, 0, none⟩), .slice (some ⟨w.heap.size, 0, none⟩) n n] 127)).heap[w.heap.size]? = some (.cells C 4 (0, 0)) := by
    rw [_root_.Go.heap_alloc_old _ _ (by rw [World.size_alloc]; omega)]
    exact heap_alloc_new w _
  have b2 : ((w.alloc (.cells C 4)).alloc (.cells #[.pointer (some ⟨d.ab, 0, none⟩), .slice (some ⟨w.heap.size, 0, none⟩) n n] 127)).heap[w.heap.size + 1]? = some (.cells #[.pointer (some ⟨d.ab, 0, none⟩), .slice (some ⟨w.heap.size, 0, none⟩) n n] 127 (0, 0)) := by
    have := heap_alloc_new (w.alloc (.cells C 4)) (.cells #[.pointer (some ⟨d.ab, 0, none⟩), .slice (some ⟨w.heap.size, 0, none⟩) n n] 127)
    rw [World.size_alloc] at this
    exact this
  have l0 := h.at_.lt0
  have l1 := h.at_.lt1 h.n8
  have l2 := h.at_.lt2 h.n8
  have hs := h.below.size
  obtain ⟨k1, k2⟩ := H _ _ b1
  refine ⟨⟨h.G g, by simp only [World.cell?, b2]; rfl, by simp only [World.cell?, b2]; rfl, k1, k2, by show W.heap.size ≤ w.heap.size + 1; omega, hs, by show w.heap.size + 1 ≠ w.heap.size; omega, ⟨by show w.heap.size + 1 ≠ d.wb; omega, by show w.heap.size + 1 ≠ d.sb; omega⟩, ⟨by show w.heap.size ≠ d.ab; omega, by show w.heap.size ≠ d.wb; omega, by show w.heap.size ≠ d.sb; omega⟩⟩, g⟩

set_option maxHeartbeats 1000000 in
theorem l_new_core {W w : World} {d : Ad} (n : Nat) (C : Array Value) (M : ∀ w, (Instr.makeSlice 124 (.int .i64 (n : Int)) (.int .i64 (n : Int))).run Tryz.prog w = .ok (.slice (some ⟨w.heap.size, 0, none⟩) n n) (w.alloc (.cells C 4)))
    (h : Hid (St W w d (ab0 n)))
    (R : Hid (StL W ((w.alloc (.cells C 4)).alloc (.cells #[.pointer (some ⟨d.ab, 0, none⟩), .slice (some ⟨w.heap.size, 0, none⟩) n n] 127)) ⟨w.heap.size + 1, w.heap.size, n, d⟩ (al0 n) ∧
      G w ((w.alloc (.cells C 4)).alloc (.cells #[.pointer (some ⟨d.ab, 0, none⟩), .slice (some ⟨w.heap.size, 0, none⟩) n n] 127)))) :
    Calls Tryz.prog 41 #[.pointer (some ⟨d.ab, 0, none⟩)] w fun e w' => ∃ x : Ld, e = .returned (.pointer (some ⟨x.lb, 0, none⟩)) ∧ x.d = d ∧ StL W w' x (al0 n) ∧ G w w' := by
  have hsp : Hid (Calls Tryz.prog 60 #[.pointer (some ⟨d.ab, 0, none⟩)] w fun e w' => e = .returned (.int .i64 (n : Int)) ∧ w' = w) := hide (st_spans h)
  go_enter Tryz.func41, Tryz.ntmps41
  go_wp2_with fail
  refine (unhide hsp).mono ?_
  rintro e w2 ⟨rfl, hw⟩
  subst hw
  clear hsp
  go_wp2_with fail
  go_ret
  exact ⟨⟨w2.heap.size + 1, w2.heap.size, n, d⟩, rfl, rfl, (unhide R).1, (unhide R).2⟩
theorem l_new {W w : World} {d : Ad} (n : Nat) (hn5 : n ≤ 512) (h : Hid (St W w d (ab0 n))) :
    Calls Tryz.prog 41 #[.pointer (some ⟨d.ab, 0, none⟩)] w fun e w' => ∃ x : Ld, e = .returned (.pointer (some ⟨x.lb, 0, none⟩)) ∧ x.d = d ∧ StL W w' x (al0 n) ∧ G w w' :=
  l_new_core n _ (mk_bools n hn5) h (hide (lnew_at _ (unhide h) fun _ _ hb => bools_at hb))

/-! ### the document's own, made beside it -/
end Go.Proofs.YtgflkpccddfalaaGreatDoor
