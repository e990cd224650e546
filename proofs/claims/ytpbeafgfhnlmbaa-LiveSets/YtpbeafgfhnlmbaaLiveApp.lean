/- append([]code.Func{f}, m.Funcs...). -/
import Derived.Test.YtpbeafgfhnlmbaaLiveFC
namespace Go.Proofs.Ytpbeafgfhnlmbaa
set_option maxRecDepth 100000
open Go.RowKit Go.Maps Go.ChangeShapes Go.WideShapes Go.ChangeAt Go.Deep

/-- The cells of a row, one behind the other. -/
theorem row_cells {α : Type} {E : El α} (ok : E.Ok) {w : World} {b off n c : Nat} {l : List α} (h : RowAt E w (some ⟨b, off, none⟩) n c l) :
    ∃ xs : List Value, xs.length = n * E.sz ∧ (∀ j u, xs[j]? = some u → w.cell? ⟨b, off + j, none⟩ = some u) ∧ ∀ i a, l[i]? = some a → ∃ cs, E.cs w a cs ∧ ∀ q u, cs[q]? = some u → xs[i * E.sz + q]? = some u := by
  have hl := h.1
  rcases h.2.2.2 with h0 | ⟨b', o', e, hb, hc⟩
  · subst h0
    obtain rfl : l = [] := List.eq_nil_of_length_eq_zero hl
    exact ⟨[], by simp, fun j u hj => by simp at hj, fun i a hi => by simp at hi⟩
  · cases e
    have hp := ok.pos
    have ex : ∀ j, j < n * E.sz → ∃ u, w.cell? ⟨b, off + j, none⟩ = some u := fun j hj => by
      have hi : j / E.sz < n := Nat.div_lt_of_lt_mul (by rw [Nat.mul_comm]; exact hj)
      obtain ⟨a, ha⟩ : ∃ a, l[j / E.sz]? = some a := ⟨l[j / E.sz]'(by omega), List.getElem?_eq_getElem _⟩
      obtain ⟨cs, e1, e2⟩ := hc _ a ha
      have hq : j % E.sz < cs.length := by rw [ok.len _ _ _ e1]; exact Nat.mod_lt _ hp
      have := e2 (j % E.sz) cs[j % E.sz] (List.getElem?_eq_getElem hq)
      have hjd : off + j / E.sz * E.sz + j % E.sz = off + j := by
        have := Nat.div_add_mod j E.sz
        rw [Nat.mul_comm] at this
        omega
      rw [hjd] at this
      exact ⟨_, this⟩
    refine ⟨(List.range (n * E.sz)).map (fun j => (w.cell? ⟨b, off + j, none⟩).getD undef), by simp, fun j u hj => ?_, fun i a hi => ?_⟩
    · have hjn : j < n * E.sz := by have := (List.getElem?_eq_some_iff.1 hj).1; simpa using this
      rw [List.getElem?_map, List.getElem?_range hjn] at hj
      obtain ⟨v, hv⟩ := ex j hjn
      have hj' : some ((w.cell? ⟨b, off + j, none⟩).getD undef) = some u := hj
      rw [hv] at hj' ⊢
      exact hj'
    · obtain ⟨cs, e1, e2⟩ := hc i a hi
      have hil : i < n := by have := (List.getElem?_eq_some_iff.1 hi).1; omega
      refine ⟨cs, e1, fun q u hq => ?_⟩
      have hql : q < E.sz := by have := (List.getElem?_eq_some_iff.1 hq).1; rw [ok.len _ _ _ e1] at this; exact this
      have hlt : i * E.sz + q < n * E.sz := by
        have := Nat.mul_le_mul_right E.sz (show i + 1 ≤ n by omega)
        rw [Nat.add_mul, Nat.one_mul] at this
        omega
      rw [List.getElem?_map, List.getElem?_range hlt]
      have := e2 q u hq
      rw [Nat.add_assoc] at this
      show some ((w.cell? ⟨b, off + (i * E.sz + q), none⟩).getD undef) = some u
      rw [this]
      rfl
theorem fn_one {w : World} {a : Fn} {cs : List Value} (h : FnCells w a cs) : ∀ u ∈ cs, u.oneCell' = true := by
  obtain ⟨ko, kc, io, ic, mo, mc, rfl, _⟩ := h
  intro u hu
  simp at hu
  rcases hu with rfl | rfl | rfl | rfl | rfl | rfl | rfl <;> rfl
theorem app_front {w0 w : World} (g0 : G w0 w) {f : Fn} {cs : List Value} (hcs : FnCells w0 f cs) {fo : Option Addr} {n fc : Nat} {l : List Fn} (hr : RowAt elFn w0 fo n fc l) (hn : n * 104 ≤ 140737488351232) :
    ∃ b c' x', (Builtin.append_ #[29, 29] 29 #[.slice (some ⟨w.heap.size, 0, none⟩) 1 1, .slice fo n fc]).run Try.prog (w.alloc (.cells cs.toArray 42)) = .ok (.slice (some ⟨b, 0, none⟩) (n + 1) c') x' ∧ G w x' ∧ w.heap.size ≤ b ∧ b < x'.heap.size ∧ ∀ w2, G w0 w2 → w2.heap[b]? = x'.heap[b]? → b < w2.heap.size → RowAt elFn w2 (some ⟨b, 0, none⟩) (n + 1) c' (f :: l) := by
  obtain ⟨i, hi, hz, hs, hb⟩ := info_parts info_func
  have hl := hr.1
  have ga := G.alloc w (.cells cs.toArray 42)
  have hcl : cs.length = 7 := okFn.len _ _ _ hcs
  have o1 : (w.alloc (.cells cs.toArray 42)).ownsRow w.heap.size 42 7 (.slice (some ⟨w.heap.size, 0, none⟩) 1 1) 1 cs := by
    have := World.ownsRow_lit (base := w.heap.size) (e := 42) (size := 7) w cs.toArray 1 (Nat.le_refl _) (by unfold maxLen; omega) (by simp [hcl])
    simpa using this
  have fin : ∀ (x' : World) (b c' : Nat) (news : List Value), x'.ownsRow w.heap.size 42 7 (.slice (some ⟨b, 0, none⟩) (n + 1) c') (n + 1) (cs ++ news) → (∀ i a, l[i]? = some a → ∃ c, FnCells w0 a c ∧ ∀ q u, c[q]? = some u → news[i * 7 + q]? = some u) → ∀ w2, G w0 w2 → w2.heap[b]? = x'.heap[b]? → b < w2.heap.size → RowAt elFn w2 (some ⟨b, 0, none⟩) (n + 1) c' (f :: l) := fun x' b c' news o hnews w2 g hbk hbl => by
    refine ⟨by simp [hl], by unfold maxLen; omega, (fun e => by cases e), Or.inr ⟨b, 0, rfl, hbl, fun i a hi => ?_⟩⟩
    have key : ∃ c, FnCells w0 a c ∧ ∀ q u, c[q]? = some u → (cs ++ news)[i * 7 + q]? = some u := by
      cases i with
      | zero =>
        simp at hi
        subst hi
        refine ⟨cs, hcs, fun q u hq => ?_⟩
        rw [Nat.zero_mul, Nat.zero_add, List.getElem?_append_left (List.getElem?_eq_some_iff.1 hq).1]
        exact hq
      | succ i =>
        have hi' : l[i]? = some a := by simpa using hi
        obtain ⟨c, e1, e2⟩ := hnews i a hi'
        refine ⟨c, e1, fun q u hq => ?_⟩
        have := e2 q u hq
        rw [List.getElem?_append_right (by omega), hcl, show (i + 1) * 7 + q - 7 = i * 7 + q by omega]
        exact this
    obtain ⟨c, e1, e2⟩ := key
    refine ⟨c, okFn.g _ _ _ _ e1 (fun b hb => g.block b hb) g.size, fun q u hq => ?_⟩
    have h5 := e2 q u hq
    have hlt : i * 7 + q < (n + 1) * 7 := by have := (List.getElem?_eq_some_iff.1 h5).1; rw [o.1] at this; exact this
    show w2.cell? ⟨b, 0 + i * 7 + q, none⟩ = some u
    rw [Nat.zero_add, World.cell?_of_block (a := ⟨b, i * 7 + q, none⟩) hbk, o.cellAt _ hlt]
    exact h5
  cases fo with
  | none =>
    have hfc : fc = 0 := hr.2.2.1 rfl
    have hn0 : n = 0 := by
      rcases hr.2.2.2 with h0 | ⟨b, off, e, _⟩
      · exact h0
      · cases e
    subst hfc
    subst hn0
    obtain rfl : l = [] := List.eq_nil_of_length_eq_zero hl
    refine ⟨w.heap.size, 1, _, run_append_owned_none (P := Try.prog) (w := w.alloc (.cells cs.toArray 42)) w.heap.size 29 29 42 i 7 Try.underlying29 hi _ _ _ o1, ga, Nat.le_refl _, by rw [World.size_alloc]; omega, fin _ _ _ [] (by simpa using o1) (fun i a hi => by simp at hi)⟩
  | some ad =>
    obtain ⟨news, hnl, hnc, hne⟩ : ∃ news : List Value, news.length = n * 7 ∧ (∀ j u, news[j]? = some u → w0.cell? (ad.add j) = some u) ∧ ∀ i a, l[i]? = some a → ∃ c, FnCells w0 a c ∧ ∀ q u, c[q]? = some u → news[i * 7 + q]? = some u := by
      rcases hr.2.2.2 with h0 | ⟨b, off, e, _⟩
      · subst h0
        obtain rfl : l = [] := List.eq_nil_of_length_eq_zero hl
        exact ⟨[], by simp, fun j u hj => by simp at hj, fun i a hi => by simp at hi⟩
      · cases e
        obtain ⟨xs, h1, h2, h3⟩ := row_cells okFn hr
        exact ⟨xs, h1, fun j u hj => by rw [Addr.add_lit]; exact h2 j u hj, h3⟩
    have hone : ∀ u ∈ news, u.oneCell' = true := fun u hu => by
      obtain ⟨j, hj⟩ := List.mem_iff_getElem?.1 hu
      have hjl := (List.getElem?_eq_some_iff.1 hj).1
      rw [hnl] at hjl
      obtain ⟨a, ha⟩ : ∃ a, l[j / 7]? = some a := ⟨l[j / 7]'(by omega), List.getElem?_eq_getElem _⟩
      obtain ⟨c, e1, e2⟩ := hne _ a ha
      have hc7 : c.length = 7 := okFn.len _ _ _ e1
      have hq : j % 7 < c.length := by omega
      have := e2 (j % 7) c[j % 7] (List.getElem?_eq_getElem hq)
      rw [show j / 7 * 7 + j % 7 = j by omega, hj] at this
      injection this with this
      rw [this]
      exact fn_one e1 _ (List.getElem_mem hq)
    obtain ⟨v', x', hrun, q1, q2, _, q4⟩ := run_append_own_at (P := Try.prog) (w.alloc (.cells cs.toArray 42)) w.heap.size 29 29 42 i _ 7 104 Try.underlying29 hi hz hs hb rfl (by decide) (.slice (some ⟨w.heap.size, 0, none⟩) 1 1) 1 cs o1 ad n fc news hnl (fun j u hj => ga.cell (g0.cell (hnc j u hj))) hone (by unfold maxLen; omega) (by omega) ga.size
    obtain ⟨b, c', rfl, hbb⟩ : ∃ b c', v' = .slice (some ⟨b, 0, none⟩) (1 + n) c' ∧ w.heap.size ≤ b := by
      rcases q1.2 with ⟨_, h0⟩ | ⟨g, cap, cur, e, hb, _⟩
      · omega
      · exact ⟨g, cap, e, hb⟩
    have gx : G w x' := ⟨q2.os.trans ga.os, q2.tape.trans ga.tape, q2.output.trans ga.output, Nat.le_trans ga.size q2.size, fun k hk => (q2.block k (Nat.lt_of_lt_of_le hk ga.size) (by simp [Value.ownBlock]; omega)).trans (ga.block k hk)⟩
    rw [Nat.add_comm 1 n] at hrun q1
    exact ⟨b, c', x', hrun, gx, hbb, (q1.lt b rfl).2, fin x' b c' news q1 hne⟩
end Go.Proofs.Ytpbeafgfhnlmbaa
