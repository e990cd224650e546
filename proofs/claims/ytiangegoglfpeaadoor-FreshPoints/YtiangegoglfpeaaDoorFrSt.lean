/- PLAIN: the graph's state, and how it settles. -/
import Derived.Test.YtiangegoglfpeaaDoorFrP
namespace Go.Proofs.YtiangegoglfpeaaDoor
set_option maxRecDepth 100000

structure FSt where
  A : List (Option Kn)
  W : List Bool
  Q : List Int
def pushS (n : Nat) (s : FSt) : FSt := if s.W.getD n false then s else ⟨s.A, s.W.set n true, pshL s.Q n⟩
def comeS (k : Kn) (n : Nat) (s : FSt) : FSt := match s.A.getD n none with
  | none => pushS n ⟨s.A.set n (some k), s.W, s.Q⟩
  | some j => if (j.meet k).eq j then s else pushS n ⟨s.A.set n (some (j.meet k)), s.W, s.Q⟩
def topS (s : FSt) : Nat := ((popL s.Q).getD (s.Q.length - 1) 0).toNat
def tookS (s : FSt) : FSt := ⟨s.A, s.W.set (topS s) false, (popL s.Q).take (s.Q.length - 1)⟩
def kAt (s : FSt) (n : Nat) : Kn := (s.A.getD n none).getD Kn.zero
def comesS (k : Kn) (l : List Int) (s : FSt) : FSt := l.foldl (fun s n => comeS k n.toNat s) s
def stepS (bh : Nat → Kn → Kn) (fl : Nat → List Int) (s : FSt) : FSt := comesS (bh (topS s) (kAt s (topS s))) (fl (topS s)) (tookS s)
def runS (bh : Nat → Kn → Kn) (fl : Nat → List Int) : Nat → FSt → FSt
  | 0, s => s
  | n + 1, s => if s.Q.isEmpty then s else runS bh fl n (stepS bh fl s)
structure FOk (N : Nat) (s : FSt) : Prop where
  a : s.A.length = N
  w : s.W.length = N
  k : ∀ (n : Nat) (k : Kn), s.A[n]? = some (some k) → k.Ok
  q : ∀ x ∈ s.Q, ∃ n : Nat, x = (n : Int) ∧ n < N ∧ s.W[n]? = some true ∧ ∃ k, s.A[n]? = some (some k)
  d : s.Q.Nodup
  c : s.Q.length = s.W.count true
theorem FOk.len {N : Nat} {s : FSt} (h : FOk N s) : s.Q.length ≤ N := by rw [h.c, ← h.w]; exact List.count_le_length
def rkO : Option Kn → Nat
  | none => 66 * 18446744073709551616
  | some k => k.rk
def muS (s : FSt) : Nat := 2 * (s.A.map rkO).sum + s.Q.length
theorem sum_set {α : Type} (f : α → Nat) : ∀ (l : List α) (n : Nat) (x y : α), l[n]? = some y → ((l.set n x).map f).sum + f y = (l.map f).sum + f x
  | [], _, _, _, h => by simp at h
  | a :: l, 0, x, y, h => by simp at h; subst h; simp; omega
  | a :: l, n + 1, x, y, h => by
    have := sum_set f l n x y (by simpa using h)
    simp only [List.set_cons_succ, List.map_cons, List.sum_cons]
    omega
theorem getD_some {α : Type} {l : List α} {n : Nat} {d : α} (h : n < l.length) : l[n]? = some (l.getD n d) := by
  rw [List.getD_eq_getElem?_getD, List.getElem?_eq_getElem h]; rfl
theorem getD_of {α : Type} {l : List α} {n : Nat} {d x : α} (h : l[n]? = some x) : l.getD n d = x := by
  rw [List.getD_eq_getElem?_getD, h]; rfl
/-- Behind a push: the state is well, and less is left, if what is known there is less. -/
theorem push_ok {N n : Nat} {s : FSt} (x : Option Kn) (k : Kn) (h : FOk N s) (hn : n < N) (hk : k.Ok) (hx : s.A[n]? = some x) (hr : k.rk < rkO x) :
    FOk N (pushS n ⟨s.A.set n (some k), s.W, s.Q⟩) ∧ muS (pushS n ⟨s.A.set n (some k), s.W, s.Q⟩) ≤ muS s := by
  have hA : ∀ i, (s.A.set n (some k))[i]? = if n = i then some (some k) else s.A[i]? := fun i => by
    rw [List.getElem?_set]
    by_cases e : n = i
    · subst e; simp [h.a, hn]
    · simp [e]
  have hmu := sum_set rkO s.A n (some k) x hx
  have e1 : rkO (some k) = k.rk := rfl
  unfold pushS
  cases hw : s.W.getD n false
  · simp only [Bool.false_eq_true, if_false]
    have hwn : s.W[n]? = some false := by rw [getD_some (l := s.W) (d := false) (by rw [h.w]; exact hn), hw]
    have hnq : (n : Int) ∉ s.Q := fun hm => by
      obtain ⟨n', e, _, h2, _⟩ := h.q _ hm
      have : n' = n := by omega
      subst this
      rw [hwn] at h2
      cases h2
    have hp := psh_perm s.Q (n : Int)
    have hlen : (pshL s.Q (n : Int)).length = s.Q.length + 1 := by rw [hp.length_eq]; simp
    refine ⟨⟨by simp [h.a], by simp [h.w], fun i j hj => ?_, fun y hy => ?_, ?_, ?_⟩, ?_⟩
    · rw [hA] at hj
      split at hj
      · cases hj; exact hk
      · exact h.k i j hj
    · have hy := hp.mem_iff.1 hy
      rw [List.mem_append] at hy
      rcases hy with hy | hy
      · obtain ⟨i, e, h1, h2, j, h3⟩ := h.q y hy
        refine ⟨i, e, h1, ?_, ?_⟩
        · show (s.W.set n true)[i]? = some true
          rw [List.getElem?_set]
          by_cases e2 : n = i
          · subst e2; simp [h.w, hn]
          · simp [e2, h2]
        · show ∃ k', (s.A.set n (some k))[i]? = some (some k')
          rw [hA]
          split
          · exact ⟨k, rfl⟩
          · exact ⟨j, h3⟩
      · simp at hy
        refine ⟨n, hy, hn, ?_, k, ?_⟩
        · show (s.W.set n true)[n]? = some true
          rw [List.getElem?_set]
          simp [h.w, hn]
        · show (s.A.set n (some k))[n]? = some (some k)
          rw [hA]; simp
    · refine hp.nodup_iff.2 (List.nodup_append.2 ⟨h.d, by simp, fun a ha b hb => ?_⟩)
      simp at hb
      subst hb
      exact fun e => hnq (e ▸ ha)
    · show (pshL s.Q (n : Int)).length = (s.W.set n true).count true
      have hlt : n < s.W.length := by rw [h.w]; exact hn
      rw [hlen, h.c, List.count_set hlt]
      have : s.W[n] = false := by
        have := List.getElem?_eq_getElem hlt
        rw [hwn] at this
        exact (Option.some.inj this).symm
      rw [this]
      simp
    · show 2 * ((s.A.set n (some k)).map rkO).sum + (pshL s.Q (n : Int)).length ≤ 2 * (s.A.map rkO).sum + s.Q.length
      rw [hlen]
      omega
  · simp only [if_true]
    have hwn : s.W[n]? = some true := by rw [getD_some (l := s.W) (d := false) (by rw [h.w]; exact hn), hw]
    refine ⟨⟨by simp [h.a], h.w, fun i j hj => ?_, fun y hy => ?_, h.d, h.c⟩, ?_⟩
    · rw [hA] at hj
      split at hj
      · cases hj; exact hk
      · exact h.k i j hj
    · obtain ⟨i, e, h1, h2, j, h3⟩ := h.q y hy
      refine ⟨i, e, h1, h2, ?_⟩
      show ∃ k', (s.A.set n (some k))[i]? = some (some k')
      rw [hA]
      split
      · exact ⟨k, rfl⟩
      · exact ⟨j, h3⟩
    · show 2 * ((s.A.set n (some k)).map rkO).sum + s.Q.length ≤ 2 * (s.A.map rkO).sum + s.Q.length
      omega
theorem come_ok {N n : Nat} {s : FSt} {k : Kn} (h : FOk N s) (hk : k.Ok) (hn : n < N) : FOk N (comeS k n s) ∧ muS (comeS k n s) ≤ muS s := by
  have hx : s.A[n]? = some (s.A.getD n none) := getD_some (by rw [h.a]; exact hn)
  unfold comeS
  cases e : s.A.getD n none with
  | none =>
    rw [e] at hx
    exact push_ok none k h hn hk hx (rk_le hk)
  | some j =>
    rw [e] at hx
    have hj := h.k n j hx
    simp only
    split
    · exact ⟨h, Nat.le_refl _⟩
    · rename_i hne
      have hne : (j.meet k).eq j = false := by simpa using hne
      exact push_ok (some j) (j.meet k) h hn (hj.meet hk) hx (rk_meet hj hk hne)
theorem comes_ok {N : Nat} {k : Kn} (hk : k.Ok) : ∀ (l : List Int) (s : FSt), (∀ x ∈ l, 0 ≤ x ∧ x < (N : Int)) → FOk N s → FOk N (comesS k l s) ∧ muS (comesS k l s) ≤ muS s
  | [], s, _, h => ⟨h, Nat.le_refl _⟩
  | x :: l, s, hl, h => by
    obtain ⟨h1, h2⟩ := hl x List.mem_cons_self
    obtain ⟨h3, h4⟩ := come_ok h hk (show x.toNat < N by omega)
    obtain ⟨h5, h6⟩ := comes_ok hk l (comeS k x.toNat s) (fun y hy => hl y (List.mem_cons_of_mem _ hy)) h3
    exact ⟨h5, Nat.le_trans h6 h4⟩
theorem top_mem {s : FSt} (hq : s.Q ≠ []) : (popL s.Q).getD (s.Q.length - 1) 0 ∈ s.Q ∧ popL s.Q = (popL s.Q).take (s.Q.length - 1) ++ [(popL s.Q).getD (s.Q.length - 1) 0] := by
  have hl : 0 < s.Q.length := List.length_pos_iff.2 hq
  have hlt : s.Q.length - 1 < (popL s.Q).length := by rw [pop_len]; omega
  have hg := getD_lt hlt
  refine ⟨(pop_perm s.Q hq).mem_iff.1 (List.mem_of_getElem? hg), ?_⟩
  conv => lhs; rw [← List.take_of_length_le (show (popL s.Q).length ≤ s.Q.length - 1 + 1 by rw [pop_len]; omega)]
  rw [List.take_add_one, hg]
  rfl
theorem took_ok {N : Nat} {s : FSt} (h : FOk N s) (hq : s.Q ≠ []) :
    FOk N (tookS s) ∧ muS (tookS s) < muS s ∧ topS s < N ∧ (popL s.Q).getD (s.Q.length - 1) 0 = (topS s : Int) ∧ s.A[topS s]? = some (some (kAt s (topS s))) ∧ (kAt s (topS s)).Ok ∧ s.W[topS s]? = some true := by
  have hl : 0 < s.Q.length := List.length_pos_iff.2 hq
  obtain ⟨hm, hsp⟩ := top_mem hq
  obtain ⟨n, e, hn, hw, k, hk⟩ := h.q _ hm
  have et : topS s = n := by unfold topS; rw [e]; rfl
  have ek : kAt s n = k := by unfold kAt; rw [getD_of hk]; rfl
  have hp := pop_perm s.Q hq
  have hnd : (popL s.Q).Nodup := hp.nodup_iff.2 h.d
  rw [hsp, List.nodup_append] at hnd
  have hlen : ((popL s.Q).take (s.Q.length - 1)).length = s.Q.length - 1 := by rw [List.length_take, pop_len]; omega
  rw [et, ek]
  refine ⟨⟨h.a, by simp [tookS, h.w], h.k, fun x hx => ?_, hnd.1, ?_⟩, ?_, hn, e, hk, h.k n k hk, hw⟩
  · obtain ⟨i, e2, h1, h2, j, h3⟩ := h.q x (hp.mem_iff.1 (List.mem_of_mem_take hx))
    refine ⟨i, e2, h1, ?_, j, h3⟩
    show (s.W.set (topS s) false)[i]? = some true
    rw [et, List.getElem?_set]
    have : n ≠ i := fun e3 => hnd.2.2 x hx ((popL s.Q).getD (s.Q.length - 1) 0) List.mem_cons_self (by rw [e, e2, e3])
    simp [this, h2]
  · show ((popL s.Q).take (s.Q.length - 1)).length = (s.W.set (topS s) false).count true
    have hlt : n < s.W.length := by rw [h.w]; exact hn
    rw [hlen, et, h.c, List.count_set hlt]
    have : s.W[n] = true := by
      have := List.getElem?_eq_getElem hlt
      rw [hw] at this
      exact (Option.some.inj this).symm
    rw [this]
    simp
  · show 2 * (s.A.map rkO).sum + ((popL s.Q).take (s.Q.length - 1)).length < 2 * (s.A.map rkO).sum + s.Q.length
    rw [hlen]
    omega
theorem step_ok {N : Nat} {bh : Nat → Kn → Kn} {fl : Nat → List Int} (hb : ∀ (n : Nat) (k : Kn), k.Ok → (bh n k).Ok) (hf : ∀ n, n < N → ∀ x ∈ fl n, 0 ≤ x ∧ x < (N : Int)) {s : FSt} (h : FOk N s) (hq : s.Q ≠ []) : FOk N (stepS bh fl s) ∧ muS (stepS bh fl s) < muS s := by
  obtain ⟨h1, h2, h3, h4, h5, h6, _⟩ := took_ok h hq
  obtain ⟨h7, h8⟩ := comes_ok (hb (topS s) _ h6) (fl (topS s)) (tookS s) (hf _ h3) h1
  exact ⟨h7, Nat.lt_of_le_of_lt h8 h2⟩
theorem run_ends {N : Nat} {bh : Nat → Kn → Kn} {fl : Nat → List Int} (hb : ∀ (n : Nat) (k : Kn), k.Ok → (bh n k).Ok) (hf : ∀ n, n < N → ∀ x ∈ fl n, 0 ≤ x ∧ x < (N : Int)) : ∀ (n : Nat) (s : FSt), FOk N s → muS s ≤ n → FOk N (runS bh fl n s) ∧ (runS bh fl n s).Q = []
  | 0, s, h, hm => by
    have : s.Q.length = 0 := by unfold muS at hm; omega
    exact ⟨h, List.eq_nil_of_length_eq_zero this⟩
  | n + 1, s, h, hm => by
    unfold runS
    cases e : s.Q.isEmpty
    · have hq : s.Q ≠ [] := fun e2 => by rw [e2] at e; cases e
      obtain ⟨h1, h2⟩ := step_ok hb hf h hq
      simpa using run_ends hb hf n _ h1 (by omega)
    · exact ⟨h, List.isEmpty_iff.1 e⟩
/-- What each step keeps, the end keeps. -/
theorem run_keeps {N : Nat} {bh : Nat → Kn → Kn} {fl : Nat → List Int} (hb : ∀ (n : Nat) (k : Kn), k.Ok → (bh n k).Ok) (hf : ∀ n, n < N → ∀ x ∈ fl n, 0 ≤ x ∧ x < (N : Int)) (J : FSt → Prop) (hJ : ∀ s, FOk N s → s.Q ≠ [] → J s → J (stepS bh fl s)) : ∀ (n : Nat) (s : FSt), FOk N s → J s → J (runS bh fl n s)
  | 0, _, _, h => h
  | n + 1, s, h, hj => by
    unfold runS
    cases e : s.Q.isEmpty
    · have hq : s.Q ≠ [] := fun e2 => by rw [e2] at e; cases e
      simpa using run_keeps hb hf J hJ n _ (step_ok hb hf h hq).1 (hJ s h hq hj)
    · exact hj
/-- The least that will do. -/
theorem leastN (R : Go.World → Nat → Prop) : ∃ M : Go.World → Nat, ∀ w n, R w n → R w (M w) ∧ M w ≤ n := by
  have h : ∀ w, ∃ m, ∀ n, R w n → R w m ∧ m ≤ n := fun w => by
    by_cases e : ∃ n, R w n
    · obtain ⟨n, hn⟩ := e
      induction n using Nat.strongRecOn with
      | _ n ih =>
        by_cases e2 : ∃ m, m < n ∧ R w m
        · obtain ⟨m, h1, h2⟩ := e2
          exact ih m h1 h2
        · exact ⟨n, fun m hm => ⟨hn, Nat.le_of_not_lt fun hlt => e2 ⟨m, hlt, hm⟩⟩⟩
    · exact ⟨0, fun n hn => absurd ⟨n, hn⟩ e⟩
  exact ⟨fun w => Classical.choose (h w), fun w n hn => Classical.choose_spec (h w) n hn⟩
end Go.Proofs.YtiangegoglfpeaaDoor
