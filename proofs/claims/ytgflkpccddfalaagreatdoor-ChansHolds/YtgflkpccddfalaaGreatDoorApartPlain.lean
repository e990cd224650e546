/- PLAIN: what ArenaApart does; no Go in it. -/
import Derived.Test.YtgflkpccddfalaaGreatDoorRowsBeside
namespace Go.Proofs.YtgflkpccddfalaaGreatDoor
set_option maxRecDepth 100000
open Go.ChangeShapes Go.WideShapes Go.ChangeAt Go.RowKit

/-- What is written into the place number i. -/
def xv (v : Int) (i : Nat) : Int := bits .xor .i64 (i : Int) v

/-- The places xs, of ys words each, are taken, and hold what was written. -/
structure Ap (a : Ab) (v : Int) (xs ys : List Int) : Prop where
  len : ys.length = xs.length
  ent : ∀ (i : Nat) x n, xs[i]? = some x → ys[i]? = some n → a.is x = true ∧ n = gw (a.clsI (gs x)) ∧ ∀ k : Nat, (k : Int) < n → a.wd (x + k) = xv v i

theorem ap_nil (a : Ab) (v : Int) : Ap a v [] [] := ⟨rfl, fun i x n h => by simp at h⟩

/-- Two places that are taken do not overlap. -/
theorem Ab.Good.disj {a : Ab} (h : a.Good) {x y : Int} (hx : a.is x = true) (hy : a.is y = true) (hne : x ≠ y) {j k : Int} (hj : 0 ≤ j ∧ j < gw (a.clsI (gs x))) (hk : 0 ≤ k ∧ k < gw (a.clsI (gs y))) : x + j ≠ y + k := by
  intro e
  obtain ⟨s, p, e1, e2, h1, h2, _, _, h5, h6, h7, _⟩ := h.spot hx
  obtain ⟨t, q, f1, f2, g1, g2, _, _, g5, g6, g7, _⟩ := h.spot hy
  rw [e1, (a.I_at h1 h2).1] at hj
  rw [f1, (a.I_at g1 g2).1] at hk
  refine places_apart h.ok h1 h2 h7 h5 g1 g2 g7 g5 ?_ (x := x + j) (by rw [← h6]; omega) (by rw [← g6, e]; omega)
  rintro ⟨rfl, rfl⟩
  exact hne (h6.trans g6.symm)

theorem Ap.write {a : Ab} {v : Int} {xs ys : List Int} (h : Ap a v xs ys) (g : a.Good) {x k u : Int} (hx : ∀ i : Nat, xs[i]? ≠ some x) (hw : a.inW x k = true) : Ap (a.writeA x k u) v xs ys := by
  have e : a.writeA x k u = a.write (x + k) u := by unfold Ab.writeA; rw [if_pos hw]
  rw [e]
  unfold Ab.inW at hw
  simp only [Bool.and_eq_true, decide_eq_true_eq] at hw
  refine ⟨h.len, fun i y n hi hn => ?_⟩
  obtain ⟨h1, h2, h3⟩ := h.ent i y n hi hn
  refine ⟨h1, h2, fun j hj => ?_⟩
  show (if y + (j : Int) = x + k then u else a.wd (y + j)) = xv v i
  rw [if_neg (g.disj h1 hw.1.1 (fun e => hx i (e ▸ hi)) (by rw [← h2]; omega) ⟨hw.1.2, hw.2⟩)]
  exact h3 j hj

theorem Ab.is_of_cls {a b : Ab} (hn : b.n = a.n) {x : Int} (hc : ∀ s : Nat, gs x = s → b.cls s = a.cls s ∧ ((a.tk s).testBit (a.pl x).toNat = true → (b.tk s).testBit (a.pl x).toNat = true)) (hx : a.is x = true) (h1 : 1 ≤ gs x) : b.is x = true ∧ b.clsI (gs x) = a.clsI (gs x) := by
  obtain ⟨s, hs⟩ := Int.eq_ofNat_of_zero_le (show 0 ≤ gs x by omega)
  obtain ⟨c1, c2⟩ := hc s hs
  have ec : b.clsI (gs x) = a.clsI (gs x) := by
    unfold Ab.clsI
    rw [hn, hs]
    simp only [Int.toNat_natCast, c1]
  refine ⟨?_, ec⟩
  unfold Ab.is at hx ⊢
  rw [ec]
  simp only [Bool.and_eq_true] at hx ⊢
  refine ⟨hx.1, ?_⟩
  rw [hs] at hx ⊢
  simp only [Int.toNat_natCast] at hx ⊢
  have := c2 (by unfold Ab.pl; rw [hs]; exact hx.2)
  unfold Ab.pl at this
  rw [hs] at this
  exact this

theorem Ap.set {a : Ab} {v : Int} {xs ys : List Int} (h : Ap a v xs ys) (g : a.Good) (s c : Int) : Ap (a.setA s c) v xs ys := by
  unfold Ab.setA
  split
  · rename_i he
    refine ⟨h.len, fun i y n hi hn => ?_⟩
    obtain ⟨h1, h2, h3⟩ := h.ent i y n hi hn
    obtain ⟨q0, q1, q2, q3, q4⟩ := g.inside h1
    have hne : ∀ t : Nat, gs y = t → t ≠ s.toNat := by
      rintro t ht rfl
      unfold Ab.setE at he
      split at he
      · omega
      · rename_i hc
        split at he
        · omega
        · rename_i hcl
          apply hcl
          have : s = gs y := by omega
          rw [this]
          exact q4
    obtain ⟨k1, k2⟩ := Ab.is_of_cls (a := a) (b := a.set s.toNat c) rfl (fun t ht => ⟨upd_other _ _ (hne t ht), fun hb => by show (upd a.tk s.toNat 0 t).testBit _ = true; rw [upd_other _ _ (hne t ht)]; exact hb⟩) h1 q2
    exact ⟨k1, by rw [k2]; exact h2, h3⟩
  · exact h

theorem Ap.take {a : Ab} {v : Int} {xs ys : List Int} (h : Ap a v xs ys) (g : a.Good) {s : Int} (he : a.takeE s = 0) :
    Ap (a.takeA s) v xs ys ∧ (a.takeA s).is (a.takeV s) = true ∧ (∀ i : Nat, xs[i]? ≠ some (a.takeV s)) ∧ gs (a.takeV s) = s ∧ (∀ k : Int, 0 ≤ k → k < gw ((a.takeA s).clsI s) → (a.takeA s).wd (a.takeV s + k) = 0) := by
  obtain ⟨p0, p1⟩ := took_is g he
  obtain ⟨t, p, rfl, ef, h1, h2, h3, h4, h5, h6, h7, h8, _⟩ := g.free he
  have n1 := g.ok.n1
  obtain ⟨g0, g1, g2, g3⟩ := ga_at (s := t) (p := p) h1 (by omega) h3 (g.ok.cr t).2 h6
  have eV : a.takeV t = ga t p (a.cls t) := by unfold Ab.takeV; rw [if_pos he, ef, h4]
  have eA : a.takeA t = a.take t p := by unfold Ab.takeA; rw [if_pos he, ef]; rfl
  have gA := g.takeA t
  have hno : a.is (a.takeV t) = false := by
    rw [← Bool.not_eq_true, Ab.is_iff g.ok]
    rintro ⟨s', p', k1, k2, k3, k4, k5, k6⟩
    obtain ⟨rfl, rfl⟩ := ga_inj g.ok h1 h2 h3 h6 k1 k2 k3 k4 (eV.symm.trans k6)
    rw [h7] at k5
    cases k5
  have hfresh : ∀ i : Nat, xs[i]? ≠ some (a.takeV t) := by
    intro i hi
    obtain ⟨n, hn⟩ : ∃ n, ys[i]? = some n := ⟨ys[i]'(by have := (List.getElem?_eq_some_iff.1 hi).1; rw [h.len]; exact this), List.getElem?_eq_getElem _⟩
    rw [(h.ent i _ n hi hn).1] at hno
    cases hno
  have hIs : ∀ y, a.is y = true → (a.take t p).is y = true ∧ (a.take t p).clsI (gs y) = a.clsI (gs y) := by
    intro y hy
    refine Ab.is_of_cls (a := a) (b := a.take t p) rfl (fun u hu => ⟨rfl, fun hb => ?_⟩) hy (g.inside hy).2.2.1
    show (upd a.tk t (a.tk t ||| 2 ^ p) u).testBit _ = true
    by_cases e : u = t
    · subst e; rw [upd_same, testBit_or_pow, hb]; rfl
    · rw [upd_other _ _ e]; exact hb
  have egs : gs (a.takeV t) = t := by rw [eV]; exact g1
  have hc2 : (a.take t p).clsI t = a.cls t := (Ab.I_at (a.take t p) h1 h2).1
  refine ⟨?_, p1, hfresh, egs, ?_⟩
  · rw [eA]
    rw [eA] at p1 gA
    refine ⟨h.len, fun i y n hi hn => ?_⟩
    obtain ⟨y1, y2, y3⟩ := h.ent i y n hi hn
    obtain ⟨z1, z2⟩ := hIs y y1
    refine ⟨z1, by rw [z2]; exact y2, fun j hj => ?_⟩
    show (if ga t p (a.cls t) ≤ y + (j : Int) ∧ y + (j : Int) < ga t p (a.cls t) + gw (a.cls t) then 0 else a.wd (y + j)) = xv v i
    rw [if_neg]
    · exact y3 j hj
    · intro hr
      rw [← eV] at hr
      refine gA.disj z1 p1 (fun e => hfresh i (e ▸ hi)) (j := j) (k := y + j - a.takeV t) ⟨by omega, by rw [z2, ← y2]; omega⟩ ⟨by omega, by rw [egs, hc2]; omega⟩ (by omega)
  · intro k hk0 hk1
    rw [eA] at hk1 ⊢
    rw [hc2] at hk1
    rw [eV]
    show (if ga t p (a.cls t) ≤ ga t p (a.cls t) + k ∧ ga t p (a.cls t) + k < ga t p (a.cls t) + gw (a.cls t) then 0 else a.wd _) = 0
    rw [if_pos (by omega)]

/-- The new place x of n words, of which the first k are written. -/
structure In (a : Ab) (v : Int) (xs ys : List Int) (x : Int) (n k : Nat) : Prop where
  ap : Ap a v xs ys
  is : a.is x = true
  new : ∀ i : Nat, xs[i]? ≠ some x
  nw : (n : Int) = gw (a.clsI (gs x))
  le : k ≤ n
  old : ∀ j : Nat, j < k → a.wd (x + j) = xv v xs.length
  nought : ∀ j : Nat, k ≤ j → j < n → a.wd (x + j) = 0

theorem In.inW {a : Ab} {v x : Int} {xs ys : List Int} {n k : Nat} (h : In a v xs ys x n k) (hk : k < n) : a.inW x k = true ∧ a.readE x k = 0 ∧ a.readV x k = 0 := by
  have e : a.inW x k = true := by
    unfold Ab.inW
    rw [h.is, ← h.nw]
    simp
    omega
  refine ⟨e, by unfold Ab.readE; rw [if_pos e], by unfold Ab.readV; rw [if_pos e]; exact h.nought k (Nat.le_refl _) hk⟩
theorem In.step {a : Ab} {v x : Int} {xs ys : List Int} {n k : Nat} (h : In a v xs ys x n k) (g : a.Good) (hk : k < n) : In (a.writeA x k (xv v xs.length)) v xs ys x n (k + 1) := by
  obtain ⟨e, _, _⟩ := h.inW hk
  have h1 := h.ap.write g (u := xv v xs.length) h.new e
  have ew : a.writeA x k (xv v xs.length) = a.write (x + k) (xv v xs.length) := by unfold Ab.writeA; rw [if_pos e]
  rw [ew] at h1 ⊢
  refine ⟨h1, h.is, h.new, h.nw, hk, fun j hj => ?_, fun j hj hn => ?_⟩
  · show (if x + (j : Int) = x + k then xv v xs.length else a.wd (x + j)) = _
    by_cases e : j = k
    · rw [if_pos (by omega)]
    · rw [if_neg (by omega)]; exact h.old j (by omega)
  · show (if x + (j : Int) = x + k then xv v xs.length else a.wd (x + j)) = _
    rw [if_neg (by omega)]
    exact h.nought j (by omega) hn
theorem In.done {a : Ab} {v x : Int} {xs ys : List Int} {n : Nat} (h : In a v xs ys x n n) : Ap a v (xs ++ [x]) (ys ++ [(n : Int)]) := by
  refine ⟨by simp [h.ap.len], fun i y m hi hm => ?_⟩
  have hl := h.ap.len
  by_cases hlt : i < xs.length
  · rw [List.getElem?_append_left hlt] at hi
    rw [List.getElem?_append_left (by omega)] at hm
    exact h.ap.ent i y m hi hm
  · have hi2 := (List.getElem?_eq_some_iff.1 hi).1
    simp at hi2
    obtain rfl : i = xs.length := by omega
    rw [List.getElem?_append_right (Nat.le_refl _)] at hi
    rw [List.getElem?_append_right (by omega)] at hm
    simp at hi
    simp [hl] at hm
    subst hi hm
    exact ⟨h.is, h.nw, fun k hk => h.old k (by omega)⟩
theorem Ap.start {a : Ab} {v : Int} {xs ys : List Int} (h : Ap a v xs ys) (g : a.Good) {s : Int} (he : a.takeE s = 0) {n : Nat} (hn : (n : Int) = gw ((a.takeA s).clsI s)) : In (a.takeA s) v xs ys (a.takeV s) n 0 := by
  obtain ⟨h1, h2, h3, h4, h5⟩ := h.take g he
  exact ⟨h1, h2, h3, by rw [h4]; exact hn, Nat.zero_le _, fun j hj => by omega, fun j _ hj => h5 j (by omega) (by omega)⟩
theorem Ap.read {a : Ab} {v : Int} {xs ys : List Int} (h : Ap a v xs ys) {i k : Nat} {x n : Int} (hi : xs[i]? = some x) (hn : ys[i]? = some n) (hk : (k : Int) < n) : a.readE x k = 0 ∧ a.readV x k = xv v i := by
  obtain ⟨h1, h2, h3⟩ := h.ent i x n hi hn
  have e : a.inW x k = true := by
    unfold Ab.inW
    rw [h1, ← h2]
    simp
    omega
  exact ⟨by unfold Ab.readE; rw [if_pos e], by unfold Ab.readV; rw [if_pos e]; exact h3 k hk⟩
theorem takeA_no {a : Ab} {s : Int} (he : ¬ a.takeE s = 0) : a.takeA s = a := by unfold Ab.takeA; rw [if_neg he]
end Go.Proofs.YtgflkpccddfalaaGreatDoor
