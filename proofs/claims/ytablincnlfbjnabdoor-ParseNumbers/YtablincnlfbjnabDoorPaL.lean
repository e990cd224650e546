/- The program's parser: fault, is, pass, take, need, text, sign. -/
import Derived.Test.YtablincnlfbjnabDoorPaM
namespace Go.Proofs.YtablincnlfbjnabDoor
set_option maxRecDepth 100000
open Go.RowKit Go.Maps Go.ChangeShapes Go.WideShapes Go.ChangeAt Go.Deep

theorem pfld0 (x y z : Value) (w : World) : (Instr.field 45 (.agg #[x, y, z]) 0).run Tryd.prog w = .ok x w := by kernel_rfl
theorem pfld1 (x y z : Value) (w : World) : (Instr.field 45 (.agg #[x, y, z]) 1).run Tryd.prog w = .ok y w := by kernel_rfl
theorem pfld2 (x y z : Value) (w : World) : (Instr.field 45 (.agg #[x, y, z]) 2).run Tryd.prog w = .ok z w := by kernel_rfl
/-- What a call that answers nothing leaves. -/
def UTo (rb wb wc : Nat) (ws : List Wd) (s : PS) (y : World) (v : Value) (e : Ending) (w' : World) : Prop := e = .returned v ∧ RSt rb wb wc ws s w' ∧ Gt rb y w'
theorem UTo.drew {rb wb wc : Nat} {ws : List Wd} {s : PS} {y : World} {v : Value} {e : Ending} {w' : World} (h : UTo rb wb wc ws s y v e w') : UTo rb wb wc ws s y v e w'.drew := ⟨h.1, h.2.1.g (G.refl _).drew, h.2.2.trans (G.refl _).drew.gt⟩
set_option maxHeartbeats 2000000 in
theorem fault_any {rb wb wc : Nat} {ws : List Wd} {s : PS} {y : World} (h : RSt rb wb wc ws s y) (er : Int) : Calls Tryd.prog 41 #[.pointer (some ⟨rb, 0, none⟩), .int .i64 er] y (UTo rb wb wc ws (pFault ws er s) y (.tuple #[])) := by
  have CW := hide (word_any h)
  have fl2 := pfld2
  obtain ⟨c0, -, c2, c3⟩ := h.b.c
  have fz : y.frozen? ⟨rb, 0, none⟩ = false := h.b.f 0
  have hk := h.k
  have hcap := h.w.cap
  have hlen := h.w.len
  obtain ⟨k, d, a, e⟩ := s
  dsimp only at c0 c2 c3 hk CW
  obtain ⟨M, hM⟩ : ∃ M, M + 1 = ws.length - k := ⟨ws.length - k - 1, by omega⟩
  obtain ⟨C, hC⟩ : ∃ C, C + M + 1 = wc - k := ⟨wc - k - M - 1, by omega⟩
  have FIN : Hid (∀ z, RBk rb wb wc ws ⟨k, d, if e = 0 then ((wdAt ws ⟨k, d, a, e⟩).o : Int) else a, if e = 0 then er else e⟩ z → Gt rb y z → UTo rb wb wc ws (pFault ws er ⟨k, d, a, e⟩) y (.tuple #[]) (.returned (.tuple #[])) (z.setCell ⟨rb, 0, none⟩ (.slice (some ⟨wb, k * 3 + M * 3, none⟩) 1 (C + 1)))) := hide fun z hb g => by
    have e1 : k * 3 + M * 3 = (ws.length - 1) * 3 := by omega
    have e2 : 1 = ws.length - (ws.length - 1) := by omega
    have e3 : C + 1 = wc - (ws.length - 1) := by omega
    rw [e1, e3]
    have hb2 := hb.setK (ws.length - 1)
    rw [← e2] at hb2
    have g2 := g.trans (gt_set rb 0 (.slice (some ⟨wb, (ws.length - 1) * 3, none⟩) 1 (wc - (ws.length - 1))) z)
    exact ⟨rfl, ⟨h.w.gt g2, by show ws.length - 1 < ws.length; omega, hb2⟩, g2⟩
  have HB := hide h.b
  rw [← hM, ← hC] at c0
  have wr : IntKind.i64.wrap (M : Int) = (M : Int) := by rw [IntKind.wrap_i64]; omega
  have wr2 : wrap64 (M : Int) = (M : Int) := by unfold wrap64; omega
  have hc2 : ¬ C + M + 1 = M := by omega
  have hs1 : M + 1 - M = 1 := by omega
  have hs2 : C + M + 1 - M = C + 1 := by omega
  have hle : (M : Int) ≤ (M : Int) + 1 := by omega
  clear h hM hC hk hcap hlen
  by_cases he : e = 0
  · subst he
    simp only [if_true] at FIN
    have FW : Hid (∀ z, G y z → ((z.cell? ⟨rb, 0, none⟩ = some (.slice (some ⟨wb, k * 3, none⟩) (M + 1) (C + M + 1)) ∧ z.cell? ⟨rb, 2, none⟩ = some (.int .i64 a) ∧ z.cell? ⟨rb, 3, none⟩ = some (.int .i64 0)) ∧ (z.frozen? ⟨rb, 0, none⟩ = false ∧ z.frozen? ⟨rb, 2, none⟩ = false ∧ z.frozen? ⟨rb, 3, none⟩ = false)) ∧ Hid (UTo rb wb wc ws (pFault ws er ⟨k, d, a, 0⟩) y (.tuple #[]) (.returned (.tuple #[])) (((z.setCell ⟨rb, 2, none⟩ (.int .i64 ((wdAt ws ⟨k, d, a, 0⟩).o : Int))).setCell ⟨rb, 3, none⟩ (.int .i64 er)).setCell ⟨rb, 0, none⟩ (.slice (some ⟨wb, k * 3 + M * 3, none⟩) 1 (C + 1))))) := hide fun z g => ⟨⟨⟨g.cell c0, g.cell c2, g.cell c3⟩, ((unhide HB).g g).f 0, ((unhide HB).g g).f 2, ((unhide HB).g g).f 3⟩, hide (unhide FIN _ ((((unhide HB).g g).setA _).setE er) ((g.gt.trans (gt_set _ _ _ _)).trans (gt_set _ _ _ _)))⟩
    clear FIN HB
    generalize wdAt ws ⟨k, d, a, 0⟩ = wd at *
    generalize (wd.o : Int) = wo at *
    go_enter Tryd.func41, Tryd.ntmps41
    go_wp2_with fail
    refine (unhide CW).mono ?_
    rintro e w1 ⟨rfl, g⟩
    obtain ⟨⟨⟨d0, d2, d3⟩, f0, f2, f3⟩, K⟩ := unhide FW w1 g
    clear FW CW g c0 c2 c3
    go_wp2_with fail
    go_region
    all_goals
      go_wp2_with fail
      go_end0
      exact (unhide K).drew
  · simp only [he, if_false] at FIN
    have f3 := (unhide HB).f 3
    have K := hide (unhide FIN y (unhide HB) (Gs.refl _ _))
    clear FIN HB CW
    have he' : (e == 0) = false := by simp [he]
    go_enter Tryd.func41, Tryd.ntmps41
    go_wp2_with fail
    go_region
    all_goals
      go_wp2_with fail
      go_end0
      exact (unhide K).drew
theorem beq_eq_decide (x t : List UInt8) : (x == t) = decide (x = t) := by rw [Bool.eq_iff_iff]; simp
theorem bytes_ne {x t : List UInt8} (h : x ≠ t) : (⟨x.toArray⟩ : ByteArray) ≠ ⟨t.toArray⟩ := fun e => h (by have := congrArg (fun b => b.data.toList) e; simpa using this)
set_option maxHeartbeats 2000000 in
theorem is_any {rb wb wc : Nat} {ws : List Wd} {s : PS} {y : World} (h : RSt rb wb wc ws s y) (t : List UInt8) : Calls Tryd.prog 43 #[.pointer (some ⟨rb, 0, none⟩), .string ⟨t.toArray⟩] y fun e w' => e = .returned (.bool (pIs ws t s)) ∧ G y w' := by
  have CW := hide (word_any h)
  have fl1 := pfld1
  unfold pIs
  clear h
  generalize wdAt ws s = wd at *
  obtain ⟨wk, wx, wo⟩ := wd
  dsimp only at CW ⊢
  go_enter Tryd.func43, Tryd.ntmps43
  go_wp2_with fail
  refine (unhide CW).mono ?_
  rintro e w1 ⟨rfl, g⟩
  replace g := hide g
  go_wp2_with fail
  go_ret
  exact ⟨by rw [← beq_eq_decide]; rfl, unhide g⟩
set_option maxHeartbeats 2000000 in
theorem pass_any {rb wb wc : Nat} {ws : List Wd} {s : PS} {y : World} (h : RSt rb wb wc ws s y) (hm : s.k + 1 < ws.length) : Calls Tryd.prog 42 #[.pointer (some ⟨rb, 0, none⟩)] y (UTo rb wb wc ws (pPass ws s) y (.tuple #[])) := by
  have CF := hide (fault_any h 2)
  obtain ⟨c0, c1, -, -⟩ := h.b.c
  have fz : y.frozen? ⟨rb, 0, none⟩ = false := h.b.f 0
  have hk := h.k
  have hcap := h.w.cap
  have hlen := h.w.len
  unfold pPass
  by_cases hd : 60 < s.d
  · rw [if_pos hd]
    have hd' : decide (60 < s.d) = true := decide_eq_true hd
    clear h
    go_enter Tryd.func42, Tryd.ntmps42
    go_wp2_with fail
    refine (unhide CF).mono ?_
    rintro e w1 hu
    obtain ⟨rfl, h2⟩ := hu
    replace h2 := hide h2
    go_wp2_with fail
    go_end0
    exact ⟨rfl, unhide h2⟩
  · rw [if_neg hd]
    obtain ⟨k, d, a, e⟩ := s
    dsimp only at c0 c1 hk hd hm CF ⊢
    obtain ⟨M, hM⟩ : ∃ M, M + 2 = ws.length - k := ⟨ws.length - k - 2, by omega⟩
    obtain ⟨C, hC⟩ : ∃ C, C + 2 = wc - k := ⟨wc - k - 2, by omega⟩
    have K : Hid (UTo rb wb wc ws ⟨min (k + 1) (ws.length - 1), d, a, e⟩ y (.tuple #[]) (.returned (.tuple #[])) (y.setCell ⟨rb, 0, none⟩ (.slice (some ⟨wb, k * 3 + 3, none⟩) (M + 1) (C + 1)))) := hide (by
      have e1 : k * 3 + 3 = (k + 1) * 3 := by omega
      have e2 : M + 1 = ws.length - (k + 1) := by omega
      have e3 : C + 1 = wc - (k + 1) := by omega
      have e4 : min (k + 1) (ws.length - 1) = k + 1 := by omega
      rw [e1, e2, e3, e4]
      have g2 := gt_set rb 0 (.slice (some ⟨wb, (k + 1) * 3, none⟩) (ws.length - (k + 1)) (wc - (k + 1))) y
      exact ⟨rfl, ⟨h.w.gt g2, hm, h.b.setK (k + 1)⟩, g2⟩)
    rw [← hM, ← hC] at c0
    have hd' : decide (60 < d) = false := decide_eq_false hd
    have hc2 : ¬ C + 2 = 1 := by omega
    have hs1 : M + 2 - 1 = M + 1 := by omega
    have hs2 : C + 2 - 1 = C + 1 := by omega
    have hle : (1 : Int) ≤ (M : Int) + 2 := by omega
    clear h hM hC hk hcap hlen CF
    go_enter Tryd.func42, Tryd.ntmps42
    go_wp2_with fail
    all_goals
      go_end0
      exact unhide K
set_option maxHeartbeats 2000000 in
theorem take_any {rb wb wc : Nat} {ws : List Wd} {s : PS} {y : World} (h : RSt rb wb wc ws s y) (t : List UInt8) (ht : t ≠ []) : Calls Tryd.prog 44 #[.pointer (some ⟨rb, 0, none⟩), .string ⟨t.toArray⟩] y (UTo rb wb wc ws (pTake ws t s).2 y (.bool (pTake ws t s).1)) := by
  have CI := hide (is_any h t)
  have CP : Hid (pIs ws t s = true → ∀ w1, G y w1 → Calls Tryd.prog 42 #[.pointer (some ⟨rb, 0, none⟩)] w1 (UTo rb wb wc ws (pPass ws s) w1 (.tuple #[]))) := hide fun e w1 g => pass_any (h.g g) (h.more (Or.inl (by have := of_decide_eq_true e; rw [this]; exact ht)))
  have HS := hide h
  clear h
  unfold pTake
  cases hi : pIs ws t s
  · rw [hi] at CI
    clear CP
    simp only [Bool.false_eq_true, if_false]
    go_enter Tryd.func44, Tryd.ntmps44
    go_wp2_with fail
    refine (unhide CI).mono ?_
    rintro e w1 ⟨rfl, g⟩
    replace g := hide g
    go_wp2_with fail
    go_ret
    exact ⟨rfl, (unhide HS).g (unhide g), (unhide g).gt⟩
  · rw [hi] at CI
    replace CP := hide (unhide CP hi)
    simp only [if_true]
    go_enter Tryd.func44, Tryd.ntmps44
    go_wp2_with fail
    refine (unhide CI).mono ?_
    rintro e w1 ⟨rfl, g⟩
    have CP1 := hide (unhide CP w1 g)
    replace g := hide g
    clear CP CI HS
    go_wp2_with fail
    refine (unhide CP1).mono ?_
    rintro e w2 ⟨rfl, h2⟩
    replace h2 := hide h2
    go_wp2_with fail
    go_ret
    exact ⟨rfl, (unhide h2).1, (unhide g).gt.trans (unhide h2).2⟩
set_option maxHeartbeats 2000000 in
theorem need_any {rb wb wc : Nat} {ws : List Wd} {s : PS} {y : World} (h : RSt rb wb wc ws s y) (t : List UInt8) (ht : t ≠ []) : Calls Tryd.prog 33 #[.pointer (some ⟨rb, 0, none⟩), .string ⟨t.toArray⟩] y (UTo rb wb wc ws (pNeed ws t s) y (.tuple #[])) := by
  have CI := hide (take_any h t ht)
  have CF : Hid (∀ w1, RSt rb wb wc ws s w1 → Calls Tryd.prog 41 #[.pointer (some ⟨rb, 0, none⟩), .int .i64 6] w1 (UTo rb wb wc ws (pFault ws 6 s) w1 (.tuple #[]))) := hide fun w1 h1 => fault_any h1 6
  clear h
  unfold pTake at CI
  unfold pNeed
  cases hi : pIs ws t s
  · rw [hi] at CI
    simp only [Bool.false_eq_true, if_false] at CI ⊢
    go_enter Tryd.func33, Tryd.ntmps33
    go_wp2_with fail
    refine (unhide CI).mono ?_
    rintro e w1 ⟨rfl, h1, g1⟩
    have CF1 := hide (unhide CF w1 h1)
    replace g1 := hide g1
    clear CF CI h1
    go_wp2_with fail
    refine (unhide CF1).mono ?_
    rintro e w2 ⟨rfl, h2⟩
    replace h2 := hide h2
    go_wp2_with fail
    go_end0
    exact ⟨rfl, (unhide h2).1, (unhide g1).trans (unhide h2).2⟩
  · rw [hi] at CI
    simp only [if_true] at CI ⊢
    clear CF
    go_enter Tryd.func33, Tryd.ntmps33
    go_wp2_with fail
    refine (unhide CI).mono ?_
    rintro e w1 ⟨rfl, h1⟩
    replace h1 := hide h1
    go_wp2_with fail
    go_end0
    exact ⟨rfl, unhide h1⟩
/-- What a call that answers a text leaves. -/
abbrev XTo (rb wb wc : Nat) (ws : List Wd) (r : List UInt8 × PS) (y : World) (e : Ending) (w' : World) : Prop := UTo rb wb wc ws r.2 y (.string ⟨r.1.toArray⟩) e w'
set_option maxHeartbeats 2000000 in
theorem text_any {rb wb wc : Nat} {ws : List Wd} {s : PS} {y : World} (h : RSt rb wb wc ws s y) (kd : Nat) (hkd : kd ≠ 0) : Calls Tryd.prog 28 #[.pointer (some ⟨rb, 0, none⟩), .int .i64 (kd : Int)] y (XTo rb wb wc ws (pText ws kd s) y) := by
  have CW := hide (word_any h)
  have fl0 := pfld0
  have fl1 := pfld1
  have hrb := h.b.lt
  unfold pText
  by_cases hk : (wdAt ws s).k = kd
  · rw [if_pos hk]
    have hm := h.more (Or.inr (by rw [hk]; exact hkd))
    have CP : Hid (∀ w1 v, G y w1 → w1.heap.size ≠ rb ∧ Calls Tryd.prog 42 #[.pointer (some ⟨rb, 0, none⟩)] (w1.alloc (.cells v 45)) (UTo rb wb wc ws (pPass ws s) (w1.alloc (.cells v 45)) (.tuple #[]))) := hide fun w1 v g => ⟨by have := g.size; omega, pass_any (h.g (G.more g _)) hm⟩
    clear h hm hrb
    rw [hk] at CW
    generalize wdAt ws s = wd at *
    clear hk
    obtain ⟨wk, wx, wo⟩ := wd
    dsimp only at CW ⊢
    go_enter Tryd.func28, Tryd.ntmps28
    go_wp2_with fail
    refine (unhide CW).mono ?_
    rintro e w1 ⟨rfl, g⟩
    obtain ⟨hne, CP1⟩ := unhide CP w1 #[.int .i64 (kd : Int), .string ⟨wx.toArray⟩, .int .i64 (wo : Int)] g
    replace CP1 := hide CP1
    have hc : Hid (∀ w2, Gt rb (w1.alloc (.cells #[.int .i64 (kd : Int), .string ⟨wx.toArray⟩, .int .i64 (wo : Int)] 45)) w2 → w2.cell? ⟨w1.heap.size, 1, none⟩ = some (.string ⟨wx.toArray⟩)) := hide fun w2 g2 => g2.cell hne (by rw [World.cell?_alloc_new]; rfl)
    replace g := hide g
    clear CP CW hne
    go_wp2_with fail
    refine (unhide CP1).mono ?_
    rintro e w2 ⟨rfl, h2⟩
    have hc2 := unhide hc w2 h2.2
    replace h2 := hide h2
    clear hc CP1
    go_wp2_with fail
    go_ret
    exact ⟨rfl, (unhide h2).1, (G.more (unhide g) _).gt.trans (unhide h2).2⟩
  · rw [if_neg hk]
    have CP : Hid (∀ w1 v, G y w1 → Calls Tryd.prog 41 #[.pointer (some ⟨rb, 0, none⟩), .int .i64 6] (w1.alloc (.cells v 45)) (UTo rb wb wc ws (pFault ws 6 s) (w1.alloc (.cells v 45)) (.tuple #[]))) := hide fun w1 v g => fault_any (h.g (G.more g _)) 6
    clear h hrb
    generalize wdAt ws s = wd at *
    obtain ⟨wk, wx, wo⟩ := wd
    dsimp only at CW hk ⊢
    have hk2 : ¬ (wk : Int) = (kd : Int) := by omega
    have hk3 : ((wk : Int) == (kd : Int)) = false := by simp; omega
    go_enter Tryd.func28, Tryd.ntmps28
    go_wp2_with fail
    refine (unhide CW).mono ?_
    rintro e w1 ⟨rfl, g⟩
    have CP1 := hide (unhide CP w1 #[.int .i64 (wk : Int), .string ⟨wx.toArray⟩, .int .i64 (wo : Int)] g)
    replace g := hide g
    clear CP CW
    go_wp2_with fail
    refine (unhide CP1).mono ?_
    rintro e w2 ⟨rfl, h2⟩
    replace h2 := hide h2
    clear CP1
    go_wp2_with fail
    go_ret
    exact ⟨rfl, (unhide h2).1, (G.more (unhide g) _).gt.trans (unhide h2).2⟩
set_option maxHeartbeats 2000000 in
theorem sign_any {rb wb wc : Nat} {ws : List Wd} {s : PS} {y : World} (h : RSt rb wb wc ws s y) (hm : s.k + 1 < ws.length) : Calls Tryd.prog 29 #[.pointer (some ⟨rb, 0, none⟩)] y (XTo rb wb wc ws (pSign ws s) y) := by
  have CW := hide (word_any h)
  have fl1 := pfld1
  have CP : Hid (∀ w1, G y w1 → Calls Tryd.prog 42 #[.pointer (some ⟨rb, 0, none⟩)] w1 (UTo rb wb wc ws (pPass ws s) w1 (.tuple #[]))) := hide fun w1 g => pass_any (h.g g) hm
  unfold pSign
  clear h hm
  generalize wdAt ws s = wd at *
  obtain ⟨wk, wx, wo⟩ := wd
  dsimp only at CW ⊢
  go_enter Tryd.func29, Tryd.ntmps29
  go_wp2_with fail
  refine (unhide CW).mono ?_
  rintro e w1 ⟨rfl, g⟩
  have CP1 := hide (unhide CP w1 g)
  replace g := hide g
  clear CP CW
  go_wp2_with fail
  refine (unhide CP1).mono ?_
  rintro e w2 ⟨rfl, h2⟩
  replace h2 := hide h2
  go_wp2_with fail
  go_ret
  exact ⟨rfl, (unhide h2).1, (unhide g).gt.trans (unhide h2).2⟩
end Go.Proofs.YtablincnlfbjnabDoor
