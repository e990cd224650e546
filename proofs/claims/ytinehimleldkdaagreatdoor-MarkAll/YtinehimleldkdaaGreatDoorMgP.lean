/- Here: marking till none is grey, plain; more roots, plain. -/
import Derived.Test.YtinehimleldkdaaGreatDoorMgT
/- PLAIN: marking from some of the things, till none is grey. -/
namespace Go.Proofs.YtinehimleldkdaaGreatDoor
set_option maxRecDepth 100000

/-- The things of a row of numbers that are places of things. -/
def rsel (at_ roots : List Int) : List Int := roots.filterMap fun (z : Int) => if 0 ≤ z ∧ z < at_.length then some (at_.getD z.toNat 0) else none
theorem rsel_yes {at_ roots : List Int} {z : Int} (h : 0 ≤ z ∧ z < at_.length) : rsel at_ (roots ++ [z]) = rsel at_ roots ++ [at_.getD z.toNat 0] := by
  unfold rsel
  rw [List.filterMap_append]
  simp [h]
theorem rsel_no {at_ roots : List Int} {z : Int} (h : ¬ (0 ≤ z ∧ z < at_.length)) : rsel at_ (roots ++ [z]) = rsel at_ roots := by
  unfold rsel
  rw [List.filterMap_append]
  simp only [List.filterMap_cons, if_neg h, List.filterMap_nil, List.append_nil]
theorem rsel_len (at_ roots : List Int) : (rsel at_ roots).length ≤ roots.length := List.length_filterMap_le _ _
theorem rsel_mem {at_ roots : List Int} : ∀ y ∈ rsel at_ roots, y ∈ at_ := by
  intro y hy
  obtain ⟨z, _, hz⟩ := List.mem_filterMap.1 hy
  split at hz
  · rename_i h
    injection hz with hz
    have : z.toNat < at_.length := by omega
    rw [List.getD_eq_getElem?_getD, List.getElem?_eq_getElem this] at hz
    rw [← hz]
    exact List.getElem_mem this
  · cases hz
theorem take_snocI {l : List Int} {j : Nat} {z : Int} (h : l[j]? = some z) : l.take (j + 1) = l.take j ++ [z] := by
  rw [List.take_add_one, h]
  rfl

theorem Ms.shade_same (M : Ms) (y : Int) : (M.shade y).al.a.n = M.al.a.n ∧ (M.shade y).al.a.cls = M.al.a.cls ∧ (M.shade y).al.a.tk = M.al.a.tk ∧ (M.shade y).al.a.wd = M.al.a.wd ∧ (M.shade y).T = M.T :=
  ⟨(markA_same _ _).1, (markA_same _ _).2.1, (markA_same _ _).2.2.1, (markA_same _ _).2.2.2, rfl⟩
theorem Ms.shades_same : ∀ (l : List Int) (M : Ms), (M.shades l).al.a.n = M.al.a.n ∧ (M.shades l).al.a.cls = M.al.a.cls ∧ (M.shades l).al.a.tk = M.al.a.tk ∧ (M.shades l).al.a.wd = M.al.a.wd ∧ (M.shades l).T = M.T
  | [], _ => ⟨rfl, rfl, rfl, rfl, rfl⟩
  | y :: r, M => by
    obtain ⟨a1, a2, a3, a4, a5⟩ := Ms.shades_same r (M.shade y)
    obtain ⟨b1, b2, b3, b4, b5⟩ := M.shade_same y
    exact ⟨a1.trans b1, a2.trans b2, a3.trans b3, a4.trans b4, a5.trans b5⟩
theorem Ms.step_mr (M : Ms) : M.step.mr = M.mr.step := by
  unfold Ms.step Mr.step
  show Ms.mr (match M.g with | [] => M | x :: r => _) = (match M.g with | [] => M.mr | x :: r => _)
  split
  · rfl
  · rw [Ms.shades_mr]; rfl
theorem Ms.step_same (M : Ms) : M.step.al.a.n = M.al.a.n ∧ M.step.al.a.cls = M.al.a.cls ∧ M.step.al.a.tk = M.al.a.tk ∧ M.step.al.a.wd = M.al.a.wd ∧ M.step.T = M.T := by
  unfold Ms.step
  split
  · exact ⟨rfl, rfl, rfl, rfl, rfl⟩
  · exact Ms.shades_same _ _

/-- n were looked at, the roots S were shaded. -/
structure AllI (al : Al) (T : List Hd.Shp) (S : List Int) (M : Ms) (k : Mk) (n : Nat) : Prop where
  sim : Sim al.a.is (fun x => al.a.flds (tabOf T) x) M.mr k
  inv : MInv (is := al.a.is) (F := fun x => al.a.flds (tabOf T) x) S k n
  same : M.al.a.n = al.a.n ∧ M.al.a.cls = al.a.cls ∧ M.al.a.tk = al.a.tk ∧ M.al.a.wd = al.a.wd ∧ M.T = T
theorem alli_start {al : Al} (h : TkO al) (T : List Hd.Shp) (S : List Int) : AllI al T S ((⟨al, T, []⟩ : Ms).shades S) (Mk.shades al.a.is ⟨[], []⟩ S) 0 := by
  refine ⟨?_, minv_start S, Ms.shades_same S ⟨al, T, []⟩⟩
  rw [Ms.shades_mr]
  refine Sim.shades S ⟨rfl, fun _ => rfl, fun _ => rfl, fun z hz => ?_, h.good⟩
  show al.a.isM z = true ↔ z ∈ []
  have : al.a.isM z = false := by
    unfold Ab.isM Ab.mrI
    split
    · rw [h.mr]; simp
    · simp
  rw [this]
  simp
theorem AllI.step {al : Al} {T : List Hd.Shp} {S : List Int} {M : Ms} {k : Mk} {n : Nat} (h : AllI al T S M k n) {x : Int} {r : List Int} (hx : M.g = x :: r) : ∃ k', AllI al T S M.step k' (n + 1) := by
  obtain ⟨m, g⟩ := k
  have e : g = x :: r := by have := h.sim.eg; exact this.symm.trans hx
  subst e
  refine ⟨_, ?_, h.inv.step, ?_⟩
  · rw [Ms.step_mr]; exact h.sim.step
  · obtain ⟨a1, a2, a3, a4, a5⟩ := M.step_same
    obtain ⟨b1, b2, b3, b4, b5⟩ := h.same
    exact ⟨a1.trans b1, a2.trans b2, a3.trans b3, a4.trans b4, a5.trans b5⟩
theorem AllI.few {al : Al} {T : List Hd.Shp} {S : List Int} {M : Ms} {k : Mk} {n : Nat} (h : AllI al T S M k n) {A : List Int} (hA : ∀ y, al.a.is y = true → y ∈ A) : n + M.g.length ≤ A.length := by
  have h1 := nodup_sub h.inv.ok.ndm fun y hy => hA y (h.inv.sub y hy).taken
  have h2 := h.inv.ok.cnt
  have h3 : M.g = k.g := h.sim.eg
  rw [h3]
  omega
theorem AllI.done {al : Al} {T : List Hd.Shp} {S : List Int} {M : Ms} {k : Mk} {n : Nat} (h : AllI al T S M k n) (hg : M.g = []) {fnd : List Int} (hf : Asc fnd) (hm : ∀ y, y ∈ fnd ↔ Rch al.a.is (fun x => al.a.flds (tabOf T) x) S y) {l : List Thg} (hr : Rel al.a l) (g : al.a.Good) :
    n = fnd.length ∧ sumM M.al.a M.al.a.n = fnd.length ∧ ∀ y ∈ fnd, M.al.a.markB y = false ∧ M.al.a.is y = true := by
  obtain ⟨m, g'⟩ := k
  have e : g' = [] := by have := h.sim.eg; exact this.symm.trans hg
  subst e
  obtain ⟨d1, d2⟩ := h.inv.done
  have hl : m.length = fnd.length := nodup_len h.inv.ok.ndm hf.nodup fun y => (d1 y).trans (hm y).symm
  obtain ⟨b1, b2, b3, b4, b5⟩ := h.same
  refine ⟨d2.trans hl, ?_, fun y hy => ?_⟩
  · rw [← hl]
    refine marks_all h.sim.good (hr.remark g b1 b2 b3 b4) h.inv.ok.ndm fun z => ?_
    constructor
    · intro hz
      have ht := (h.inv.sub z hz).taken
      exact ⟨(h.sim.is_ z).trans ht, (h.sim.mz z ht).2 hz⟩
    · rintro ⟨h1, h2⟩
      exact (h.sim.mz z ((h.sim.is_ z).symm.trans h1)).1 h2
  · have ht := ((hm y).1 hy).taken
    refine ⟨?_, (h.sim.is_ y).trans ht⟩
    have := h.sim.markB y
    rw [← Bool.not_eq_true]
    intro hb
    exact (this.1 hb).2 ((d1 y).2 ((hm y).1 hy))
end Go.Proofs.YtinehimleldkdaaGreatDoor

/- PLAIN: from more roots no less is come to. -/
namespace Go.Proofs.YtinehimleldkdaaGreatDoor
set_option maxRecDepth 100000

theorem reach_again {is : Int → Bool} {F : Int → List Int} {S x ag : List Int} (hx : Asc x) (hm : ∀ y, y ∈ x ↔ Rch is F S y) (ha : Asc ag) (hg : ∀ y, y ∈ ag ↔ Rch is F x y) : ag = x :=
  Asc.ext ha hx fun y => by
    rw [hg y, hm y]
    constructor
    · exact Rch.again fun z hz => (hm z).1 hz
    · exact fun h => .root ((hm y).2 h) h.taken
theorem reach_more {is : Int → Bool} {F : Int → List Int} {S S' x y : List Int} (hm : ∀ z, z ∈ x ↔ Rch is F S z) (hy : ∀ z, z ∈ y ↔ Rch is F (S ++ S') z) : ∀ z ∈ x, z ∈ y := fun z hz =>
  (hy z).2 (((hm z).1 hz).mono fun _ h => List.mem_append.2 (Or.inl h))
theorem asc_lt {l : List Int} (h : Asc l) {i j : Nat} {x y : Int} (hi : l[i]? = some x) (hj : l[j]? = some y) (hij : i < j) : x < y := by
  obtain ⟨h1, e1⟩ := List.getElem?_eq_some_iff.1 hi
  obtain ⟨h2, e2⟩ := List.getElem?_eq_some_iff.1 hj
  rw [← e1, ← e2]
  exact List.pairwise_iff_getElem.1 h i j h1 h2 hij
/-- Where the things of a rising list are in a greater one. -/
theorem pos_of {x y : List Int} (hx : Asc x) (hy : Asc y) (hs : ∀ z ∈ x, z ∈ y) : ∃ p : Nat → Nat, (∀ (i : Nat) z, x[i]? = some z → y[p i]? = some z) ∧ ∀ i, i + 1 < x.length → p i ≤ p (i + 1) := by
  have ha : ∀ (i : Nat) z, x[i]? = some z → y[y.idxOf (x.getD i 0)]? = some z := fun i z hz => by
    rw [List.getD_eq_getElem?_getD, hz, Option.getD_some]
    have hm := hs z (List.mem_of_getElem? hz)
    rw [List.getElem?_eq_getElem (List.idxOf_lt_length_iff.2 hm)]
    simp
  refine ⟨fun i => y.idxOf (x.getD i 0), ha, fun i hi => ?_⟩
  have h1 : x[i]? = some x[i] := List.getElem?_eq_getElem (by omega)
  have h2 : x[i + 1]? = some x[i + 1] := List.getElem?_eq_getElem hi
  have h3 := asc_lt hx h1 h2 (by omega)
  have k1 := ha i _ h1
  have k2 := ha (i + 1) _ h2
  refine Nat.le_of_not_lt fun hlt => ?_
  have := asc_lt hy k2 k1 hlt
  omega
theorem mem_take_snocI {l : List Int} {n : Nat} {z q : Int} (h : l[n]? = some z) : (decide (q ∈ l.take n) || (z == q)) = decide (q ∈ l.take (n + 1)) := by
  rw [take_snocI h, Bool.eq_iff_iff]
  simp only [Bool.or_eq_true, decide_eq_true_eq, beq_iff_eq, List.mem_append, List.mem_singleton]
  constructor
  · rintro (h | h)
    · exact Or.inl h
    · exact Or.inr h.symm
  · rintro (h | h)
    · exact Or.inl h
    · exact Or.inr h.symm
end Go.Proofs.YtinehimleldkdaaGreatDoor
