/- The contract of the document's Arena: Sweep. -/
import Derived.Test.YtinehimleldkdaaGreatDoorRefRow
namespace Go.Proofs.YtinehimleldkdaaGreatDoor
set_option maxRecDepth 100000
open Go.ChangeShapes Go.WideShapes Go.ChangeAt Go.RowKit

theorem RefAt.setCls {w : World} {B : Nat} {r : Rd} {cl : List Int} {l : List Mt} (h : RefAt w B r cl l) {s : Nat} (hs : s < cl.length) (c : Int) : RefAt (w.setCell ⟨r.cb, s, none⟩ (.int .i64 c)) B r (cl.set s c) l ∧ Rn w (w.setCell ⟨r.cb, s, none⟩ (.int .i64 c)) r l := by
  have o : ∀ k j, k ≠ r.cb → (w.setCell ⟨r.cb, s, none⟩ (.int .i64 c)).cell? ⟨k, j, none⟩ = w.cell? ⟨k, j, none⟩ := fun k j hk => cell_other _ (Or.inl hk)
  have fz : ∀ a, (w.setCell ⟨r.cb, s, none⟩ (.int .i64 c)).frozen? a = w.frozen? a := fun a => World.frozen?_setCell _ _ _ _
  obtain ⟨z0, hz0⟩ : ∃ z, cl[s]? = some z := ⟨cl[s]'hs, List.getElem?_eq_getElem _⟩
  refine ⟨⟨by rw [List.length_set]; exact (o _ _ h.ne).trans h.c0, (o _ _ h.ne).trans h.c1, fun i => (fz _).trans (h.f0 i), ?_, fun i => (fz _).trans (h.cf i), by rw [List.length_set]; exact h.cle, h.lle, h.lmx, ?_, ?_, h.nil, ?_, h.ap, h.b0, h.b1, by rw [World.size_setCell]; exact h.h0, by rw [World.size_setCell]; exact h.h1, h.ne⟩, ?_⟩
  · intro i z hz
    rw [List.getElem?_set] at hz
    by_cases e : s = i
    · subst e
      rw [if_pos rfl, if_pos hs] at hz
      rw [← Option.some.inj hz]
      exact cell_same _ (h.cv s z0 hz0)
    · rw [if_neg e] at hz
      rw [cell_other _ (Or.inr (fun x => e x.symm))]
      exact h.cv i z hz
  · intro i m hm
    obtain ⟨b, e, x0, x1, x2⟩ := h.row i m hm
    have hne : b ≠ r.cb := (h.lf _ e).2.2.2.2.2
    exact ⟨b, e, (o _ _ hne).trans x0, (o _ _ hne).trans x1, (o _ _ hne).trans x2⟩
  · intro a ha
    obtain ⟨y0, y1, y2, y3, y4, y5⟩ := h.lf a ha
    exact ⟨y0, y1, by rw [World.size_setCell]; exact y2, fun i => (fz _).trans (y3 i), y4, y5⟩
  · intro m hm
    obtain ⟨q0, q1, q2, q3⟩ := h.wd m hm
    exact ⟨q0.kept (Below.heap_setCell _ _ _ _ q2) (by rw [World.size_setCell]; exact Nat.le_refl _), q1, q2, q3⟩
  · exact ⟨rfl, rfl, rfl, by rw [World.size_setCell]; exact Nat.le_refl _, fun k hk k0 k1 k2 k3 => Below.heap_setCell _ _ _ _ k1⟩

/-- What Sweep has found in the first j things. -/
def goneN (l : List Mt) (s j : Nat) : Nat := ((l.take j).filter fun m => goes s m.t).length
def leftN (l : List Mt) (s j : Nat) : Nat := ((l.take j).filter fun m => decide (gs m.t.addr = s) && m.t.mr).length
def keptM (l : List Mt) (s j : Nat) : List Mt := (l.take j).filter fun m => !goes s m.t
theorem take_snoc {l : List Mt} {j : Nat} {m : Mt} (h : l[j]? = some m) : l.take (j + 1) = l.take j ++ [m] := by rw [List.take_add_one, h]; rfl
theorem goneN_succ {l : List Mt} {s j : Nat} {m : Mt} (h : l[j]? = some m) : goneN l s (j + 1) = goneN l s j + if goes s m.t = true then 1 else 0 := by
  unfold goneN
  rw [take_snoc h, List.filter_append, List.length_append]
  by_cases e : goes s m.t = true <;> simp [e]
theorem leftN_succ {l : List Mt} {s j : Nat} {m : Mt} (h : l[j]? = some m) : leftN l s (j + 1) = leftN l s j + if (decide (gs m.t.addr = s) && m.t.mr) = true then 1 else 0 := by
  unfold leftN
  rw [take_snoc h, List.filter_append, List.length_append]
  by_cases e : (decide (gs m.t.addr = s) && m.t.mr) = true
  · simp only [e, if_true]; simp [List.filter, e]
  · simp only [Bool.not_eq_true] at e; simp [List.filter, e]
theorem keptM_succ {l : List Mt} {s j : Nat} {m : Mt} (h : l[j]? = some m) : keptM l s (j + 1) = if goes s m.t = true then keptM l s j else keptM l s j ++ [m] := by
  unfold keptM
  rw [take_snoc h, List.filter_append]
  by_cases e : goes s m.t = true <;> simp [e]
theorem goneN_le (l : List Mt) (s j : Nat) : goneN l s j ≤ j := by
  unfold goneN
  exact Nat.le_trans (List.length_filter_le _ _) (by rw [List.length_take]; omega)
theorem leftN_le (l : List Mt) (s j : Nat) : leftN l s j ≤ j := by
  unfold leftN
  exact Nat.le_trans (List.length_filter_le _ _) (by rw [List.length_take]; omega)
theorem keptM_le (l : List Mt) (s j : Nat) : (keptM l s j).length ≤ j := by
  unfold keptM
  exact Nat.le_trans (List.length_filter_le _ _) (by rw [List.length_take]; omega)

/-- While Sweep goes on. -/
structure Sg (w wr : World) (B : Nat) (r : Rd) (cl : List Int) (l : List Mt) (ao : Option Addr) (ca : Nat) (kl : List Mt) : Prop where
  ref : RefAt wr B r cl l
  row : RowM wr w.heap.size ao ca kl
  g : G w wr
  nil : ao = none → kl = [] ∧ ca = 0
theorem Sg.gr {w wr w' : World} {B : Nat} {r : Rd} {cl : List Int} {l : List Mt} {ao : Option Addr} {ca : Nat} {kl : List Mt} (h : Sg w wr B r cl l ao ca kl) (g : G wr w') : Sg w w' B r cl l ao ca kl := ⟨h.ref.grown g, h.row.grown g, h.g.trans g, h.nil⟩
theorem Sg.app {w wr w' : World} {B : Nat} {r : Rd} {cl : List Int} {l : List Mt} {ao : Option Addr} {ca g cap' : Nat} {kl : List Mt} {m : Mt} (h : Sg w wr B r cl l ao ca kl) (h0 : RefAt w B r cl l)
    (hr : w'.ownsRow w.heap.size 96 3 (.slice (some ⟨g, 0, none⟩) (kl.length + 1) cap') (kl.length + 1) (flatM kl ++ m.cells))
    (hg : wr.grownBy w' (Value.ownBlock (.slice ao kl.length ca))) : Sg w w' B r cl l (some ⟨g, 0, none⟩) cap' (kl ++ [m]) := by
  have gg : G w w' := ⟨hg.os.trans h.g.os, hg.tape.trans h.g.tape, hg.output.trans h.g.output, Nat.le_trans h.g.size hg.size, fun k hk => (hg.block k (Nat.lt_of_lt_of_le hk h.g.size) (fun e => by
    obtain ⟨y, h1, h2⟩ := own_block e
    have := (h.row.lt y h1).1
    omega)).trans (h.g.block k hk)⟩
  refine ⟨h0.grown gg, ?_, gg, fun e => by cases e⟩
  unfold RowM
  rw [List.length_append, flatM_snoc]
  exact hr

set_option maxHeartbeats 1000000 in
set_option maxRecDepth 100000 in
theorem rsweep_core (w : World) (B : Nat) (r : Rd) (cl : List Int) (l : List Mt) (s n : Nat) (hln : Hid (l.length = n)) (hn : n ≤ 100000) (h : Hid (RefAt w B r cl l)) (nc : Nat) (hnc : Hid (cl.length = nc)) (hs : s < nc) (c : Int) (hc : Hid (cl[s]? = some c)) (hcd : decide (c < 0) = false) :
    Calls Tryz.prog 94 #[.pointer (some ⟨r.rb, 0, none⟩), .int .i64 (s : Int)] w fun e w' => ∃ (p k : Nat) (ao : Option Addr) (ca : Nat) (wr : World), Hid (p = goneN l s n ∧ k = (keptM l s n).length ∧ Sg w wr B r cl l ao ca (keptM l s n)) ∧ e = .returned (.int .i64 (p : Int)) ∧
      (Hid (leftN l s n = 0) ∧ w' = (wr.setCell ⟨r.rb, 1, none⟩ (.slice ao k ca)).setCell ⟨r.cb, s, none⟩ (.int .i64 (-1)) ∨ Hid (leftN l s n ≠ 0) ∧ w' = wr.setCell ⟨r.rb, 1, none⟩ (.slice ao k ca)) := by
  obtain ⟨i0, hi0, hz0, hz1, hz2⟩ := info_parts info_thing
  have R0 : Hid (Sg w w B r cl l none 0 (keptM l s 0)) := hide ⟨unhide h, RowM.nil _ _, G.refl _, fun _ => ⟨rfl, rfl⟩⟩
  have k0 : w.cell? ⟨r.rb, 0, none⟩ = some (.slice (some ⟨r.cb, 0, none⟩) nc r.cc) := by have := (unhide h).c0; rw [unhide hnc] at this; exact this
  have k1 : w.cell? ⟨r.cb, s, none⟩ = some (.int .i64 c) := (unhide h).cv s c (unhide hc)
  go_enter Tryz.func94, Tryz.ntmps94
  go_wp2_with fail
  go_loopw [5, 6, 7, 8] (fun u a b i wr => ∃ (j k : Nat) (ao : Option Addr) (ca : Nat) (p q : Nat), j ≤ n ∧ k ≤ j ∧ p ≤ j ∧ q ≤ j ∧ u = .slice ao k ca ∧ a = .int .i64 p ∧ b = .int .i64 q ∧ i = .int .i64 j ∧
    Hid (k = (keptM l s j).length ∧ p = goneN l s j ∧ q = leftN l s j ∧ Sg w wr B r cl l ao ca (keptM l s j))) (fun _ _ _ i _ => n - (intOf i).toNat)
  case atStart => exact ⟨0, 0, none, 0, 0, 0, Nat.zero_le _, Nat.le_refl _, Nat.le_refl _, Nat.le_refl _, rfl, rfl, rfl, rfl, hide ⟨rfl, rfl, rfl, unhide R0⟩⟩
  case round =>
    obtain ⟨j, k, ao, ca, p, q, hj, hkj, hpj, hqj, rfl, rfl, rfl, rfl, R⟩ := hrel
    clear R0
    obtain ⟨hk, hp, hq, S⟩ := unhide R
    have c1 : wr.cell? ⟨r.rb, 1, none⟩ = some (.slice r.lo n r.lc) := by have := S.ref.c1; rw [unhide hln] at this; exact this
    have f1 : wr.frozen? ⟨r.rb, 1, none⟩ = false := S.ref.f0 1
    have c0 : wr.cell? ⟨r.rb, 0, none⟩ = some (.slice (some ⟨r.cb, 0, none⟩) nc r.cc) := by have := S.ref.c0; rw [unhide hnc] at this; exact this
    have v1 : wr.cell? ⟨r.cb, s, none⟩ = some (.int .i64 c) := S.ref.cv s c (unhide hc)
    have vf : wr.frozen? ⟨r.cb, s, none⟩ = false := S.ref.cf s
    have hne := S.ref.ne
    have RS := hide S
    replace hk := hide hk
    replace hp := hide hp
    replace hq := hide hq
    clear R S
    by_cases hjn : j = n
    · subst hjn
      by_cases hq0 : (q : Int) = 0
      · have hd : ((q : Int) == 0) = true := by simpa using hq0
        go_wp2_with fail
        go_ret
        exact ⟨p, k, ao, ca, wr, hide ⟨unhide hp, unhide hk, unhide RS⟩, rfl, Or.inl ⟨hide (by rw [← unhide hq]; omega), rfl⟩⟩
      · have hd : ((q : Int) == 0) = false := by simpa using hq0
        go_wp2_with fail
        go_ret
        exact ⟨p, k, ao, ca, wr, hide ⟨unhide hp, unhide hk, unhide RS⟩, rfl, Or.inr ⟨hide (by rw [← unhide hq]; omega), rfl⟩⟩
    · have hjl : (j : Int) < (n : Int) := by omega
      obtain ⟨m, hm⟩ : ∃ m, l[j]? = some m := ⟨l[j]'(by rw [unhide hln]; omega), List.getElem?_eq_getElem _⟩
      obtain ⟨g, hg, x0, x1, x2⟩ := (unhide RS).ref.row j m hm
      rw [hg] at c1
      have e1 := goneN_succ (s := s) hm
      have e2 := leftN_succ (s := s) hm
      have e3 := keptM_succ (s := s) hm
      obtain ⟨ad, had⟩ : ∃ x, x = m.t.addr := ⟨_, rfl⟩
      obtain ⟨mk, hmk⟩ : ∃ x, x = m.t.mr := ⟨_, rfl⟩
      obtain ⟨mb, hmb⟩ : ∃ x, x = m.wb := ⟨_, rfl⟩
      obtain ⟨ml, hml⟩ : ∃ x, x = m.t.ws.length := ⟨_, rfl⟩
      obtain ⟨mc, hmc0⟩ : ∃ x, x = m.wc := ⟨_, rfl⟩
      have hmc : Hid (m.cells = [.int .i64 ad, .slice (some ⟨mb, 0, none⟩) ml mc, .bool mk]) := by unfold Mt.cells; rw [had, hmk, hmb, hml, hmc0]; exact hide rfl
      rw [← had] at x0
      rw [← hmb, ← hml, ← hmc0] at x1
      rw [← hmk] at x2
      have hgoes : goes s m.t = (decide (gs ad = s) && !mk) := by unfold goes; rw [had, hmk]
      rw [hgoes] at e1 e3
      rw [← had, ← hmk] at e2
      replace e1 := hide e1
      replace e2 := hide e2
      replace e3 := hide e3
      replace hg := hide hg
      replace hm := hide hm
      clear had hmk hmb hml hmc0 hgoes
      obtain ⟨sp, hsp⟩ : ∃ x, x = gs ad := ⟨_, rfl⟩
      have CS := hide (fun w1 => rspan_any ad w1)
      rw [← hsp] at CS e1 e2 e3
      clear hsp
      go_wp2_with fail
      refine (unhide CS _).mono ?_
      rintro e w2 ⟨rfl, rfl⟩
      have RS2 := RS
      clear RS CS
      by_cases hh : sp = (s : Int)
      · subst hh
        have hb1 : ((s : Int) == (s : Int)) = true := by simp
        simp only [decide_true, Bool.true_and] at e1 e2 e3
        cases mk with
        | false =>
          simp only [Bool.not_false, if_true, Bool.false_eq_true, if_false, Nat.add_zero] at e1 e2 e3
          go_wp2_with fail
          go_roundw
          case rel => exact ⟨j + 1, k, ao, ca, p + 1, q, by omega, by omega, by omega, by omega, rfl, by go_num, rfl, by go_num, hide ⟨by rw [unhide e3]; exact unhide hk, by rw [unhide e1, ← unhide hp], by rw [unhide e2]; exact unhide hq, by rw [unhide e3]; exact unhide RS2⟩⟩
          case measure => simp [intOf]; omega
        | true =>
          simp only [Bool.not_true, if_true, Bool.false_eq_true, if_false, Nat.add_zero] at e1 e2 e3
          have R2 := hide ((unhide RS2).gr (G.alloc w2 (.cells #[.int .i64 ad, .slice (some ⟨mb, 0, none⟩) ml mc, .bool true] 96)))
          have HO : Hid ((w2.alloc (.cells #[.int .i64 ad, .slice (some ⟨mb, 0, none⟩) ml mc, .bool true] 96)).ownsRow w.heap.size 96 3 (.slice ao k ca) k (flatM (keptM l s j))) := by
            have := (unhide R2).row
            unfold RowM at this
            rw [← unhide hk] at this
            exact hide this
          have HS : Hid (w.heap.size ≤ (w2.alloc (.cells #[.int .i64 ad, .slice (some ⟨mb, 0, none⟩) ml mc, .bool true] 96)).heap.size) := hide (unhide R2).g.size
          have HN : Hid (∀ (i : Nat) u, [Value.int .i64 ad, .slice (some ⟨mb, 0, none⟩) ml mc, .bool true][i]? = some u → (w2.alloc (.cells #[.int .i64 ad, .slice (some ⟨mb, 0, none⟩) ml mc, .bool true] 96)).cell? ((⟨w2.heap.size, 0, none⟩ : Addr).add i) = some u) := hide fun i u hi => by
            rw [Addr.add_lit, Nat.zero_add, World.cell?_alloc_new]
            simpa using hi
          have H1 : Hid (∀ u ∈ [Value.int .i64 ad, .slice (some ⟨mb, 0, none⟩) ml mc, .bool true], u.oneCell' = true) := hide fun u hu => by
            simp at hu
            rcases hu with rfl | rfl | rfl <;> rfl
          clear RS2
          go_wp2_with (at_builtin; refine wpl_append_at rfl (.tmp 55) (.tmp 63) 97 rfl w.heap.size 96 i0 (.agg #[.int .i64 0, .slice none 0 0, .bool false]) 3 40 Tryz.underlying97 hi0 hz0 hz1 hz2 rfl (by decide) ao k ca (flatM (keptM l s j)) rfl (unhide HO) ⟨w2.heap.size, 0, none⟩ 1 1 [.int .i64 ad, .slice (some ⟨mb, 0, none⟩) ml mc, .bool true] rfl rfl (unhide HN) (unhide H1) (by decide) (by unfold maxLen; omega) (by omega) (unhide HS) ?_; intro g8 cap8 w7 hr8 hg8 hat8; have R7 := hide ((unhide R2).app (m := m) (unhide h) (by rw [← unhide hk, unhide hmc]; exact hr8) (by rw [← unhide hk]; exact hg8)); clear hr8 hg8 hat8 HO HS HN H1 R2)
          go_roundw
          case rel => exact ⟨j + 1, k + 1, some ⟨g8, 0, none⟩, cap8, p, q + 1, by omega, by omega, by omega, by omega, rfl, rfl, by go_num, by go_num, hide ⟨by rw [unhide e3, List.length_append, ← unhide hk]; rfl, by rw [unhide e1]; exact unhide hp, by rw [unhide e2, ← unhide hq], by rw [unhide e3]; exact unhide R7⟩⟩
          case measure => simp [intOf]; omega
      · have hb1 : (sp == (s : Int)) = false := by simpa using hh
        have hdd : decide (sp = (s : Int)) = false := by simpa using hh
        rw [hdd] at e1 e2 e3
        simp only [Bool.false_and, Bool.false_eq_true, if_false, Nat.add_zero] at e1 e2 e3
        have R2 := hide ((unhide RS2).gr (G.alloc w2 (.cells #[.int .i64 ad, .slice (some ⟨mb, 0, none⟩) ml mc, .bool mk] 96)))
        have HO : Hid ((w2.alloc (.cells #[.int .i64 ad, .slice (some ⟨mb, 0, none⟩) ml mc, .bool mk] 96)).ownsRow w.heap.size 96 3 (.slice ao k ca) k (flatM (keptM l s j))) := by
          have := (unhide R2).row
          unfold RowM at this
          rw [← unhide hk] at this
          exact hide this
        have HS : Hid (w.heap.size ≤ (w2.alloc (.cells #[.int .i64 ad, .slice (some ⟨mb, 0, none⟩) ml mc, .bool mk] 96)).heap.size) := hide (unhide R2).g.size
        have HN : Hid (∀ (i : Nat) u, [Value.int .i64 ad, .slice (some ⟨mb, 0, none⟩) ml mc, .bool mk][i]? = some u → (w2.alloc (.cells #[.int .i64 ad, .slice (some ⟨mb, 0, none⟩) ml mc, .bool mk] 96)).cell? ((⟨w2.heap.size, 0, none⟩ : Addr).add i) = some u) := hide fun i u hi => by
          rw [Addr.add_lit, Nat.zero_add, World.cell?_alloc_new]
          simpa using hi
        have H1 : Hid (∀ u ∈ [Value.int .i64 ad, .slice (some ⟨mb, 0, none⟩) ml mc, .bool mk], u.oneCell' = true) := hide fun u hu => by
          simp at hu
          rcases hu with rfl | rfl | rfl <;> rfl
        clear RS2
        go_wp2_with (at_builtin; refine wpl_append_at rfl (.tmp 55) (.tmp 63) 97 rfl w.heap.size 96 i0 (.agg #[.int .i64 0, .slice none 0 0, .bool false]) 3 40 Tryz.underlying97 hi0 hz0 hz1 hz2 rfl (by decide) ao k ca (flatM (keptM l s j)) rfl (unhide HO) ⟨w2.heap.size, 0, none⟩ 1 1 [.int .i64 ad, .slice (some ⟨mb, 0, none⟩) ml mc, .bool mk] rfl rfl (unhide HN) (unhide H1) (by decide) (by unfold maxLen; omega) (by omega) (unhide HS) ?_; intro g8 cap8 w7 hr8 hg8 hat8; have R7 := hide ((unhide R2).app (m := m) (unhide h) (by rw [← unhide hk, unhide hmc]; exact hr8) (by rw [← unhide hk]; exact hg8)); clear hr8 hg8 hat8 HO HS HN H1 R2)
        go_roundw
        case rel => exact ⟨j + 1, k + 1, some ⟨g8, 0, none⟩, cap8, p, q, by omega, by omega, by omega, by omega, rfl, rfl, rfl, by go_num, hide ⟨by rw [unhide e3, List.length_append, ← unhide hk]; rfl, by rw [unhide e1]; exact unhide hp, by rw [unhide e2]; exact unhide hq, by rw [unhide e3]; exact unhide R7⟩⟩
        case measure => simp [intOf]; omega
end Go.Proofs.YtinehimleldkdaaGreatDoor
