/- Here, one behind the other: ChP, ChP2, ChM, ChS, ChT, CpActs, CzAwake, ChWalk, ChLaw. -/
import Derived.Test.YtgflkpccddfalaaGreatDoorMhB
import Derived.Test.YtgflkpccddfalaaGreatDoorMhA
import Derived.Laws.OwnMore
import Derived.Deep.DeepCutAuto
import Derived.BigQuiet
import Derived.Test.YtgflkpccddfalaaGreatDoorArenaBase
import Derived.Deep.Strs
/- PLAIN: ChansHolds' heap: one channel of addresses, things without fields; what a whole collection keeps of it, and how many places are taken. -/
namespace Go.Proofs.YtgflkpccddfalaaGreatDoor
set_option maxRecDepth 100000
open Go.ChangeShapes Go.WideShapes Go.ChangeAt Go.RowKit Go.Maps

/-! ### a whole collection from one root, which leads to things that lead nowhere -/
theorem stepC_mark {C : Cy} (R : Rt) (h2 : C.ph = 2) {x : Int} {r : List Int} (hg : C.M.g = x :: r) : C.stepC R = { C with M := C.M.step } := by
  unfold Cy.stepC
  rw [if_neg (by omega), if_pos h2, hg]
theorem whole2_runs (R : Rt) (hi : R.ids = []) {c : Int} (hg : R.g = [c]) (C : Cy) (h0 : C.ph = 0) (hq : C.M.g = []) (hd : 0 ≤ C.done ∧ C.done ≤ 1000000) (g : C.M.al.a.Good) (calm : C.M.al.Calm) (hc : C.M.al.a.is c = true) {l : List Int} (hl : C.M.flds c = l) (hn : l.Nodup) (hcl : c ∉ l) (hlen : l.length ≤ 9000) (hx : ∀ y ∈ l, C.M.al.a.is y = true ∧ C.M.flds y = []) :
    ∃ J, (C.startC R).Runs R J ∧ Cw { C with bk := [] } ((C.startC R).stepsC R J) ∧ ((C.startC R).stepsC R J).M.g = [] ∧ ∀ x, ((C.startC R).stepsC R J).M.al.a.is x = true ↔ C.M.al.a.is x = true ∧ x ∈ c :: l := by
  have eS : C.startC R = (({ C with M := ⟨⟨C.M.al.a.clear, C.M.al.u⟩, C.M.T, C.M.g⟩, ph := 1, bk := [] } : Cy)).shades R.g := if_pos h0
  have hm0 : ∀ x, C.M.al.a.clear.isM x = false := fun x => by
    unfold Ab.isM Ab.mrI
    split <;> simp [Ab.clear]
  have sm0 : Sm C.M.al.a C.M.al.a.clear := ⟨rfl, rfl, rfl, rfl⟩
  obtain ⟨a1, a2, a3, a4, a5, a6⟩ := shades_ok R.g ⟨⟨C.M.al.a.clear, C.M.al.u⟩, C.M.T, C.M.g⟩ g.clear (by rw [hg]; simp) (fun y hy => ⟨(sm0.is y).trans (by rw [hg] at hy; simp at hy; subst hy; exact hc), hm0 y⟩)
  obtain ⟨M1, hM1⟩ : ∃ M1, M1 = Ms.shades ⟨⟨C.M.al.a.clear, C.M.al.u⟩, C.M.T, C.M.g⟩ R.g := ⟨_, rfl⟩
  rw [← hM1] at a1 a2 a3 a4 a5 a6
  have a5' : Sm C.M.al.a M1.al.a := sm0.trans a5
  have a4' : M1.g = [c] := by rw [a4, hq, hg]; rfl
  have eS2 : C.startC R = { C with M := M1, ph := 1, bk := [] } := by rw [eS, hM1]; rfl
  have eT : ({ C with M := M1, ph := 1, bk := [] } : Cy).stepC R = { C with M := M1, ph := 2, bk := [] } := by
    unfold Cy.stepC
    rw [if_pos rfl, hi]
    rfl
  have flz : ∀ y, M1.flds y = C.M.flds y := fun y => by unfold Ms.flds; rw [a5'.flds, a3]
  have m1 : ∀ y, C.M.al.a.is y = true → M1.al.a.isM y = decide (y = c) := fun y hy => by
    have h1 := a6 y ((sm0.is y).trans hy)
    have h2 : M1.al.a.isM y = (C.M.al.a.clear.isM y || decide (y ∈ R.g)) := h1
    rw [h2, hm0, hg]
    simp
  obtain ⟨b1, b2, b3, b4, b5, b6⟩ := shades_ok l ⟨M1.al, M1.T, []⟩ a1 hn (fun y hy => ⟨(a5'.is y).trans (hx y hy).1, by
    show M1.al.a.isM y = false
    rw [m1 y (hx y hy).1]
    have : ¬ y = c := fun e => hcl (by rw [← e]; exact hy)
    simp [this]⟩)
  obtain ⟨M2, hM2⟩ : ∃ M2, M2 = Ms.shades ⟨M1.al, M1.T, []⟩ l := ⟨_, rfl⟩
  rw [← hM2] at b1 b2 b3 b4 b5 b6
  have b4' : M2.g = l := by rw [b4]; rfl
  have b5' : Sm C.M.al.a M2.al.a := a5'.trans b5
  have eM : M1.step = M2 := by
    unfold Ms.step
    rw [a4']
    simp only
    rw [flz c, hl]
    exact hM2.symm
  have eU : ({ C with M := M1, ph := 2, bk := [] } : Cy).stepC R = { C with M := M2, ph := 2, bk := [] } :=
    (stepC_mark R rfl a4').trans (by show ({ C with M := M1.step, ph := 2, bk := [] } : Cy) = _; rw [eM])
  have fl2 : ∀ y ∈ l, M2.flds y = [] := fun y hy => by
    have : M2.flds y = C.M.flds y := by unfold Ms.flds; rw [b5'.flds, b3]; show _ = C.M.al.a.flds (tabOf C.M.T) y; rw [show (⟨M1.al, M1.T, []⟩ : Ms).T = C.M.T from a3]
    rw [this]
    exact (hx y hy).2
  have f2 : ({ C with M := M2, ph := 2, bk := [] } : Cy).Fits := ⟨by show M2.g.length ≤ 10000; rw [b4']; omega, by simp, hd⟩
  have f1 : ∀ p, ({ C with M := M1, ph := p, bk := [] } : Cy).Fits := fun p => ⟨by show M1.g.length ≤ 10000; rw [a4']; simp, by simp, hd⟩
  obtain ⟨J, r1, r2, r3, r4⟩ := mark_runs R hi l ({ C with M := M2, ph := 2, bk := [] } : Cy) rfl f2 b4' b1 (fun s => by show M2.al.u s = false; rw [b2]; show M1.al.u s = false; rw [a2]; exact calm s) fl2
  have eE : (C.startC R).stepsC R (J + 1 + 1) = ({ C with M := M2, ph := 2, bk := [] } : Cy).stepsC R J := by rw [← stepsC_succ, ← stepsC_succ, eS2, eT, eU]
  have k1 : ({ C with M := M1, ph := 2, bk := [] } : Cy).Runs R (J + 1) := Cy.Runs.cons (Or.inr (Or.inl rfl)) (f1 2) (by rw [eU]; exact r1)
  have k0 : ({ C with M := M1, ph := 1, bk := [] } : Cy).Runs R (J + 1 + 1) := Cy.Runs.cons (Or.inl rfl) (f1 1) (by rw [eT]; exact k1)
  refine ⟨J + 1 + 1, by rw [eS2]; exact k0, ?_⟩
  rw [eE]
  refine ⟨⟨r2.ph, r2.bk, r2.T.trans (b3.trans a3), r2.dn, r2.good, r2.calm, r2.n.trans b5'.1, r2.wd.trans b5'.2.2.2, fun t => (r2.cls t).imp (fun h => h.trans (by show M2.al.a.cls t = _; rw [b5'.2.1])) id⟩, r3, fun x => ?_⟩
  rw [r4 x]
  show M2.al.a.is x = true ∧ M2.al.a.isM x = true ↔ _
  rw [b5'.is]
  constructor
  · rintro ⟨h1, h2⟩
    refine ⟨h1, ?_⟩
    have h3 : M2.al.a.isM x = (M1.al.a.isM x || decide (x ∈ l)) := b6 x ((a5'.is x).trans h1)
    rw [h3, m1 x h1] at h2
    simpa using h2
  · rintro ⟨h1, h2⟩
    refine ⟨h1, ?_⟩
    have h3 : M2.al.a.isM x = (M1.al.a.isM x || decide (x ∈ l)) := b6 x ((a5'.is x).trans h1)
    rw [h3, m1 x h1]
    simpa using h2

/-! ### a channel's words behind a taking (as CpP's, for channels of addresses too) -/
section
variable {al al' : Al} {l : List Hd.Shp} {a b : Int} {R f : Nat} {adr cl : Bool} {q : List Int}
theorem Cz.is (h : Cz al l a R adr) : al.a.is a = true := by
  have := h.inw 0 (by omega)
  unfold Ab.inW at this
  simp only [Bool.and_eq_true] at this
  exact this.1.1
theorem Cz.fits (h : Cz al l a R adr) {j : Nat} (hj : j < R + 5) : (j : Int) < gw (al.a.clsI (gs a)) := by
  have := h.inw j hj
  unfold Ab.inW at this
  simp only [Bool.and_eq_true, decide_eq_true_eq] at this
  exact this.2
theorem Cz.on (h : Cz al l a R adr) (h1 : ∀ j : Nat, j < R + 5 → al'.a.inW a (j : Int) = true) (h2 : ∀ j : Nat, j < R + 5 → al'.a.wd (a + (j : Int)) = al.a.wd (a + (j : Int))) : Cz al' l a R adr := by
  refine ⟨?_, h1, (h2 1 (by omega)).trans h.room, h.r0⟩
  have e0 := h1 0 (by omega)
  have e1 := h.inw 0 (by omega)
  have e2 := h2 0 (by omega)
  have : ofP al' l a = ofP al l a := by
    unfold ofP Ab.readE Ab.readV
    rw [show ((0 : Nat) : Int) = 0 from rfl] at e0 e1 e2
    rw [e0, e1, e2]
  rw [this]
  exact h.of_
theorem Cq.on {b' b : Ab} (h : Cq b a R f q cl) (h2 : ∀ j : Nat, j < R + 5 → b'.wd (a + (j : Int)) = b.wd (a + (j : Int))) : Cq b' a R f q cl := by
  refine ⟨(h2 2 (by omega)).trans h.cnt, (h2 3 (by omega)).trans h.fst, (h2 4 (by omega)).trans h.shut, h.len, h.fR, h.fl, fun i v hi => ?_⟩
  have hlt : i < q.length := (List.getElem?_eq_some_iff.1 hi).1
  have hm : (f + i) % R < R := Nat.mod_lt _ (by have := h.len; omega)
  have := h2 (5 + (f + i) % R) (by omega)
  rw [show ((5 + (f + i) % R : Nat) : Int) = 5 + (((f + i) % R : Nat) : Int) by omega] at this
  exact this.trans (h.at_ i v hi)
theorem inW_of {a : Ab} {x : Int} (h : a.is x = true) {j : Nat} (hj : (j : Int) < gw (a.clsI (gs x))) : a.inW x (j : Int) = true := by
  unfold Ab.inW
  simp [h, hj]
def ofW (l : List Hd.Shp) (w : Int) : Option (Int × Int × Int × Hd.Shp) := if Hd.uokB w = true then (match l[(Hd.up2 w).toNat]? with
    | some s => some (Hd.up0 w, Hd.up1 w, Hd.up2 w, s)
    | none => none) else none
theorem ofP_ofW {al : Al} {l : List Hd.Shp} {a : Int} (h : al.a.readE a 0 = 0) : ofP al l a = ofW l (al.a.readV a 0) := by
  unfold ofP ofW
  exact (if_pos h).trans rfl
end
/-- All slots of the ring but those in which a thing stands are 0. -/
def Zr (b : Ab) (a : Int) (R f n : Nat) : Prop := ∀ j, j < R → (∀ i, i < n → (f + i) % R ≠ j) → b.wd (a + (5 + (j : Int))) = 0

/-! ### how many places are taken -/
/-- Those of the spans from 1 on, below k. -/
def sumT (a : Ab) : Nat → Nat
  | 0 => 0
  | k + 1 => sumT a k + if 1 ≤ k then popF 64 (a.tk k) else 0
def spanT (a : Ab) (s : Nat) : List Int := if 1 ≤ s then ((List.range 64).filter fun p => (a.tk s).testBit p).map fun p : Nat => ga s p (a.cls s) else []
def allT (a : Ab) (k : Nat) : List Int := (List.range k).flatMap (spanT a)
theorem spanT_len (a : Ab) (s : Nat) : (spanT a s).length = if 1 ≤ s then popF 64 (a.tk s) else 0 := by
  unfold spanT
  split
  · rw [List.length_map, ← popF_cnt]
  · rfl
theorem allT_len (a : Ab) : ∀ k, (allT a k).length = sumT a k
  | 0 => rfl
  | k + 1 => by
    unfold allT
    rw [List.range_succ, List.flatMap_append, List.length_append]
    have := allT_len a k
    unfold allT at this
    rw [this]
    simp [spanT_len, sumT]
theorem spanT_mem {a : Ab} (g : a.Good) {s : Nat} (h2 : s < a.n) {x : Int} (hx : x ∈ spanT a s) : a.is x = true ∧ gs x = s ∧ ∃ p : Nat, x = ga s p (a.cls s) ∧ (a.tk s).testBit p = true ∧ gpl x (a.cls s) = p := by
  unfold spanT at hx
  split at hx
  · rename_i h1
    obtain ⟨p, hp, rfl⟩ := List.mem_map.1 hx
    obtain ⟨_, hb⟩ := List.mem_filter.1 hp
    have hb : (a.tk s).testBit p = true := hb
    have n1 := g.ok.n1
    have h3 : 0 ≤ a.cls s := by
      rcases Int.lt_or_le (a.cls s) 0 with h | h
      · have := (g.z s h).1
        rw [this] at hb
        simp at hb
      · exact h
    have h4 : (p : Int) < gp (a.cls s) := g.ok.tb s h3 p hb
    obtain ⟨_, e1, e2, _⟩ := ga_at (s := s) (p := p) h1 (by omega) h3 (g.ok.cr s).2 h4
    exact ⟨(Ab.is_iff g.ok _).2 ⟨s, p, h1, h2, h3, h4, hb, rfl⟩, e1, p, rfl, hb, e2⟩
  · cases hx
theorem allT_mem {a : Ab} (g : a.Good) (x : Int) : x ∈ allT a a.n ↔ a.is x = true := by
  unfold allT
  rw [List.mem_flatMap]
  constructor
  · rintro ⟨s, hs, hx⟩
    exact (spanT_mem g (List.mem_range.1 hs) hx).1
  · intro h
    obtain ⟨s, p, h1, h2, h3, h4, h5, rfl⟩ := (Ab.is_iff g.ok x).1 h
    refine ⟨s, List.mem_range.2 h2, ?_⟩
    unfold spanT
    rw [if_pos h1]
    have : gp (a.cls s) ≤ 64 := by rcases gw_gp (a.cls s) with ⟨_, e⟩ | ⟨_, _, _, _, e, _⟩ <;> omega
    exact List.mem_map.2 ⟨p, List.mem_filter.2 ⟨List.mem_range.2 (by omega), h5⟩, rfl⟩
theorem allT_nodup {a : Ab} (g : a.Good) : (allT a a.n).Nodup := by
  unfold allT List.Nodup
  rw [List.pairwise_flatMap]
  constructor
  · intro s hs
    have hs' := List.mem_range.1 hs
    have hm := fun x hx => spanT_mem g hs' (x := x) hx
    unfold spanT at hm ⊢
    split
    · rename_i h1
      rw [if_pos h1] at hm
      rw [List.pairwise_map]
      refine ((List.nodup_range (n := 64)).filter _).imp_of_mem ?_
      intro p q hp hq hne e
      obtain ⟨_, _, p', e1, _, e2⟩ := hm _ (List.mem_map.2 ⟨p, hp, rfl⟩)
      obtain ⟨_, _, q', f1, _, f2⟩ := hm _ (List.mem_map.2 ⟨q, hq, rfl⟩)
      obtain ⟨_, hbp⟩ := List.mem_filter.1 hp
      obtain ⟨_, hbq⟩ := List.mem_filter.1 hq
      have hbp : (a.tk s).testBit p = true := hbp
      have hbq : (a.tk s).testBit q = true := hbq
      have n1 := g.ok.n1
      have h3 : 0 ≤ a.cls s := by
        rcases Int.lt_or_le (a.cls s) 0 with h | h
        · have := (g.z s h).1
          rw [this] at hbp
          simp at hbp
        · exact h
      obtain ⟨_, _, x2, _⟩ := ga_at (s := s) (p := p) h1 (by omega) h3 (g.ok.cr s).2 (g.ok.tb s h3 p hbp)
      obtain ⟨_, _, y2, _⟩ := ga_at (s := s) (p := q) h1 (by omega) h3 (g.ok.cr s).2 (g.ok.tb s h3 q hbq)
      have e' : ga s p (a.cls s) = ga s q (a.cls s) := e
      rw [e', y2] at x2
      exact hne (by omega)
    · exact List.Pairwise.nil
  · refine (List.nodup_range (n := a.n)).imp_of_mem ?_
    intro s t hs ht hne x hx y hy e
    have h1 := (spanT_mem g (List.mem_range.1 hs) hx).2.1
    have h2 := (spanT_mem g (List.mem_range.1 ht) hy).2.1
    rw [e, h2] at h1
    exact hne (by omega)
/-- So many are taken. -/
theorem taken_all {a : Ab} (g : a.Good) {m : List Int} (hm : m.Nodup) (h : ∀ x, a.is x = true ↔ x ∈ m) : sumT a a.n = m.length := by
  rw [← allT_len]
  exact nodup_len (allT_nodup g) hm fun y => (allT_mem g y).trans (h y)
/-- A bit is struck: the lowest that is set. -/
theorem popF_low : ∀ (f m : Nat), 0 < m → m < 2 ^ f → popF f (m &&& (m - 1)) + 1 = popF f m
  | 0, m, h1, h2 => by simp at h2; omega
  | f + 1, m, h1, h2 => by
    rw [Nat.pow_succ] at h2
    have d : ∀ a b : Nat, (a &&& b) / 2 = (a / 2) &&& (b / 2) := fun a b => by
      have := Nat.and_div_two_pow (a := a) (b := b) (n := 1)
      simpa using this
    have md : ∀ a b : Nat, (a &&& b) % 2 = (a % 2) &&& (b % 2) := fun a b => by
      have := Nat.and_mod_two_pow (a := a) (b := b) (n := 1)
      simpa using this
    unfold popF
    rw [d, md]
    rcases Nat.mod_two_eq_zero_or_one m with e | e
    · have e1 : (m - 1) % 2 = 1 := by omega
      have e2 : (m - 1) / 2 = m / 2 - 1 := by omega
      rw [e, e1, e2, Nat.zero_and]
      have := popF_low f (m / 2) (by omega) (by omega)
      omega
    · have e1 : (m - 1) % 2 = 0 := by omega
      have e2 : (m - 1) / 2 = m / 2 := by omega
      rw [e, e1, e2, Nat.and_self, Nat.and_zero]
      omega
end Go.Proofs.YtgflkpccddfalaaGreatDoor

/- PLAIN: ChansHolds' heap between two acts; what Make, Push, Pop and a whole collection make of it. -/
namespace Go.Proofs.YtgflkpccddfalaaGreatDoor
set_option maxRecDepth 100000
open Go.ChangeShapes Go.WideShapes Go.ChangeAt Go.RowKit Go.Maps

/-- c: the channel, R its room; ins: what stands in it; m: so many places are taken at most. -/
structure CI (al : Al) (c : Int) (R f : Nat) (ins : List Int) (m : Nat) : Prop where
  good : al.a.Good
  calm : al.Calm
  n20 : al.a.n = 20
  cz : Cz al ls5 c R true
  cq : Cq al.a c R f ins false
  zr : Zr al.a c R f ins.length
  ob : ∀ x, al.a.is x = true → x ≠ c → 0 < x ∧ al.a.wd x = Hd.hw 1 0 2
  ii : ∀ x ∈ ins, al.a.is x = true ∧ x ≠ c
  nd : ins.Nodup
  cl : ∀ s : Nat, 1 ≤ s → s < 20 → al.a.cls s = gc 1 ∨ al.a.cls s < 0 ∨ (s : Int) = gs c
  few : ∃ L : List Int, L.length ≤ m ∧ ∀ x, al.a.is x = true → x ∈ L
theorem Good.wr {a : Ab} (g : a.Good) (p v : Int) : (a.write p v).Good := ⟨⟨g.ok.n0, g.ok.n1, g.ok.c0, g.ok.cr, g.ok.tb, g.ok.mb⟩, g.z⟩
section
variable {al al' al2 : Al} {c v : Int} {R f m : Nat} {ins q : List Int}
theorem CI.nf (h : CI al c R f ins m) (g : List Int) {y : Int} (hy : al.a.is y = true) (hne : y ≠ c) : (⟨al, ls5, g⟩ : Ms).flds y = [] := by
  obtain ⟨u0, u1, u2, _, _⟩ := Hd.hw_up (a := 1) (b := 0) (c := 2) (by decide)
  unfold Ms.flds Ab.flds
  split
  · rw [(h.ob y hy hne).2, u2, u0]
    rfl
  · rfl
theorem CI.slot (h : CI al c R f ins m) {j : Nat} (hj : j < R) : (∃ i, i < ins.length ∧ (f + i) % R = j ∧ ins[i]? = some (al.a.wd (c + (5 + (j : Int)))) ∧ al.a.wd (c + (5 + (j : Int))) ≠ 0) ∨ al.a.wd (c + (5 + (j : Int))) = 0 := by
  by_cases hh : ∃ i, i < ins.length ∧ (f + i) % R = j
  · obtain ⟨i, hi, e⟩ := hh
    have h1 := h.cq.at_ i ins[i] (List.getElem?_eq_getElem hi)
    rw [e] at h1
    have h2 := h.ii ins[i] (List.getElem_mem hi)
    have h3 := (h.ob _ h2.1 h2.2).1
    exact Or.inl ⟨i, hi, e, by rw [List.getElem?_eq_getElem hi, h1], by rw [h1]; omega⟩
  · exact Or.inr (h.zr j hj fun i hi e => hh ⟨i, hi, e⟩)
theorem hold3 (R f : Nat) (h : f < R + 4) : Hd.holdsB 3 1 (f : Int) ((R + 5 : Nat) : Int) = true ↔ 4 ≤ f := by
  unfold Hd.holdsB
  rw [if_neg (by omega), if_neg (by omega), if_neg (by omega), if_pos rfl]
  simp
  omega
theorem CI.fc (h : CI al c R f ins m) (g : List Int) : ∃ l, (⟨al, ls5, g⟩ : Ms).flds c = l ∧ l.Nodup ∧ ∀ y, y ∈ l ↔ y ∈ ins := by
  obtain ⟨sh, s, ho, hh⟩ := h.cz.of_
  have hin : al.a.inW c 0 = true := h.cz.inw 0 (by omega)
  have hE : al.a.readE c 0 = 0 := if_pos hin
  have hV : al.a.readV c 0 = al.a.wd c := by unfold Ab.readV; rw [if_pos hin, Int.add_zero]
  rw [ofP_ofW hE, hV] at ho
  unfold ofW at ho
  split at ho
  · rename_i hu
    split at ho
    · rename_i s' hs'
      have ho2 := Option.some.inj ho
      simp only [Prod.mk.injEq] at ho2
      obtain ⟨e0, e1, e2, e3⟩ := ho2
      subst e3
      have es : s' = ⟨3, 0, 1⟩ := by
        have hm := List.mem_of_getElem? hs'
        simp only [ls5, List.mem_cons, List.not_mem_nil, or_false] at hm
        rcases hm with rfl | rfl | rfl
        · exact absurd hh (by decide)
        · rfl
        · exact absurd hh (by decide)
      have hfl : (⟨al, ls5, g⟩ : Ms).flds c = fldL 3 1 (R + 5) fun i => al.a.wd (c + i) := by
        have ht : (tabOf ls5)[(Hd.up2 (al.a.wd c)).toNat]? = some (3, 1) := by unfold tabOf; rw [List.getElem?_map, hs', es]; rfl
        unfold Ms.flds Ab.flds
        rw [if_pos ⟨h.cz.is, hu, by rw [e0]; have := h.cz.fits (j := R + 4) (by omega); show _ ≤ gw (al.a.clsI (gs c)); omega⟩]
        show (match (tabOf ls5)[(Hd.up2 (al.a.wd c)).toNat]? with | some (k, m) => fldL k m (Hd.up0 (al.a.wd c)).toNat _ | none => []) = _
        rw [ht, e0]
        simp only
        rw [show ((R : Int) + 5).toNat = R + 5 by omega]
      have key : ∀ (a : Nat) (b : Int), a < R + 4 → (if Hd.holdsB 3 1 (a : Int) ((R + 5 : Nat) : Int) = true ∧ al.a.wd (c + ((1 + a : Nat) : Int)) ≠ 0 then some (al.a.wd (c + ((1 + a : Nat) : Int))) else none) = some b → ∃ j, a = 4 + j ∧ j < R ∧ al.a.wd (c + (5 + (j : Int))) = b ∧ b ≠ 0 := fun a b ha hb => by
        split at hb
        · rename_i hc
          obtain ⟨h1, h2⟩ := hc
          have h4 := (hold3 R a ha).1 h1
          refine ⟨a - 4, by omega, by omega, ?_, ?_⟩
          · rw [← Option.some.inj hb]; congr 1; omega
          · rw [← Option.some.inj hb]; exact h2
        · cases hb
      refine ⟨_, hfl, ?_, fun y => ?_⟩
      · unfold fldL List.Nodup
        rw [List.pairwise_filterMap]
        refine (List.nodup_range (n := R + 5 - 1)).imp_of_mem ?_
        intro a a' ha ha' hne b hb b' hb' e
        rw [List.mem_range] at ha ha'
        obtain ⟨j, rfl, j1, j2, j3⟩ := key a b (by omega) hb
        obtain ⟨j', rfl, k1, k2, k3⟩ := key a' b' (by omega) hb'
        rcases h.slot j1 with ⟨i, i1, i2, i3, _⟩ | z
        · rcases h.slot k1 with ⟨i', i1', i2', i3', _⟩ | z
          · rw [j2] at i3
            rw [k2, ← e] at i3'
            have := (List.getElem?_inj i1 h.nd).1 (i3.trans i3'.symm)
            subst this
            omega
          · omega
        · omega
      · unfold fldL
        rw [List.mem_filterMap]
        constructor
        · rintro ⟨a, ha, hb⟩
          rw [List.mem_range] at ha
          obtain ⟨j, rfl, j1, j2, j3⟩ := key a y (by omega) hb
          rcases h.slot j1 with ⟨i, _, _, i3, _⟩ | z
          · rw [j2] at i3; exact List.mem_of_getElem? i3
          · omega
        · intro hy
          obtain ⟨i, hi⟩ := List.getElem?_of_mem hy
          have hlt := (List.getElem?_eq_some_iff.1 hi).1
          have hle := h.cq.len
          have hm : (f + i) % R < R := Nat.mod_lt _ (by omega)
          have hat := h.cq.at_ i y hi
          have h2 := h.ii y hy
          have h3 := (h.ob y h2.1 h2.2).1
          refine ⟨4 + (f + i) % R, List.mem_range.2 (by omega), ?_⟩
          have e : al.a.wd (c + ((1 + (4 + (f + i) % R) : Nat) : Int)) = y := by rw [← hat]; congr 1; omega
          exact (if_pos ⟨(hold3 R _ (by omega)).2 (by omega), by show al.a.wd (c + ((1 + (4 + (f + i) % R) : Nat) : Int)) ≠ 0; rw [e]; omega⟩).trans (congrArg some e)
    · cases ho
  · cases ho
theorem sumT_full {a : Ab} {z : Int} (hF : ∀ s : Nat, 1 ≤ s → s < 20 → (s : Int) ≠ z → popF 64 (a.tk s) = 32) : ∀ k, k ≤ 20 → 32 * (k - 1) ≤ sumT a k + (if z < k then 32 else 0)
  | 0, _ => by omega
  | k + 1, hk => by
    have ih := sumT_full hF k (by omega)
    unfold sumT
    by_cases k1 : 1 ≤ k
    · rw [if_pos k1]
      by_cases e : (k : Int) = z
      · rw [if_neg (by omega)] at ih
        rw [if_pos (by omega)]
        omega
      · have := hF k k1 (by omega) e
        by_cases hz : z < (k : Int)
        · rw [if_pos hz] at ih
          rw [if_pos (by omega)]
          omega
        · rw [if_neg hz] at ih
          rw [if_neg (by omega)]
          omega
    · rw [if_neg k1]
      omega
theorem CI.take (h : CI al c R f ins m) (hm : m ≤ 300) : ∃ al' v, al.take 1 = (al', v, 0) ∧ v ∉ ins ∧ v ≠ c ∧ CI ⟨al'.a.writeA v 0 (Hd.pkV 1 0 2), al'.u⟩ c R f ins (m + 1) ∧ (al'.a.writeA v 0 (Hd.pkV 1 0 2)).is v = true := by
  obtain ⟨f1, f2⟩ := gc_fitC (n := 1) (by omega) (by omega)
  have cm := take_calm h.calm 1
  have nn := h.n20
  have c0 := h.cz.is
  have fin : ∀ (al' : Al) (v : Int), al'.a.Good → al'.Calm → al'.a.n = 20 → (∀ s : Nat, 1 ≤ s → s < 20 → al'.a.cls s = gc 1 ∨ al'.a.cls s < 0 ∨ (s : Int) = gs c) → Nx al.a al'.a v 1 → (∀ x, al.a.is x = true → Kx al.a al'.a x) → (∀ x, al'.a.is x = true → x = v ∨ al.a.is x = true) → v ∉ ins ∧ v ≠ c ∧ CI ⟨al'.a.writeA v 0 (Hd.pkV 1 0 2), al'.u⟩ c R f ins (m + 1) ∧ (al'.a.writeA v 0 (Hd.pkV 1 0 2)).is v = true := fun al' v g' c' n' cl' N K O => by
    have hin : al'.a.inW v 0 = true := by have := N.fit; unfold Ab.inW; simp [N.is]; omega
    have epk : Hd.pkV 1 0 2 = Hd.hw 1 0 2 := if_pos (by decide)
    have e : al'.a.writeA v 0 (Hd.pkV 1 0 2) = al'.a.write (v + 0) (Hd.hw 1 0 2) := by rw [epk]; exact if_pos hin
    have nv : ∀ x, al.a.is x = true → x ≠ v := fun x hx e => by rw [e, N.no] at hx; cases hx
    have kc := K c c0
    have hw : ∀ j : Nat, j < R + 5 → (al'.a.write (v + 0) (Hd.hw 1 0 2)).wd (c + (j : Int)) = al.a.wd (c + (j : Int)) := fun j hj => by
      have hf := h.cz.fits hj
      rw [wd_other _ (g'.disj kc.is N.is (nv c c0) ⟨by omega, by rw [kc.cl]; exact hf⟩ ⟨by omega, by have := N.fit; omega⟩)]
      exact kc.wd j (by omega) hf
    refine ⟨fun hmm => nv v (h.ii v hmm).1 rfl, fun e => nv c c0 e.symm, ?_, by rw [e]; exact N.is⟩
    rw [e]
    refine ⟨Good.wr g' _ _, c', n', h.cz.on (fun j hj => inW_of kc.is (by rw [kc.cl]; exact h.cz.fits hj)) hw, h.cq.on hw, fun j hj hi => ?_, fun x hx hne => ?_, fun x hx => ?_, h.nd, cl', ?_⟩
    · have := hw (5 + j) (by omega)
      rw [show ((5 + j : Nat) : Int) = 5 + (j : Int) by omega] at this
      exact this.trans (h.zr j hj hi)
    · have hx' : al'.a.is x = true := hx
      show 0 < x ∧ (al'.a.write (v + 0) (Hd.hw 1 0 2)).wd x = _
      rcases O x hx' with rfl | ho
      · exact ⟨N.pos, by rw [Int.add_zero]; exact wd_same _ _ _⟩
      · obtain ⟨o1, o2⟩ := h.ob x ho hne
        have k := K x ho
        have hg := (is_gw g' k.is).1
        have hg0 := (is_gw h.good ho).1
        refine ⟨o1, ?_⟩
        have hd := g'.disj k.is N.is (nv x ho) (j := 0) (k := 0) ⟨by omega, by omega⟩ ⟨by omega, by have := N.fit; omega⟩
        rw [wd_other _ (by omega)]
        have hk := k.wd 0 (by omega) (by omega)
        rw [Int.add_zero] at hk
        exact hk.trans o2
    · obtain ⟨i1, i2⟩ := h.ii x hx
      exact ⟨(K x i1).is, i2⟩
    · obtain ⟨L, l1, l2⟩ := h.few
      refine ⟨v :: L, by simp; omega, fun x hx => ?_⟩
      rcases O x hx with rfl | ho
      · simp
      · exact List.mem_cons_of_mem _ (l2 x ho)
  rcases take_ways h.calm f1 with ⟨j, j1, j2, j3, j4, e⟩ | ⟨hno, ⟨j, j1, j2, j3, j4, e⟩ | ⟨j1, e⟩⟩
  · rw [e] at cm
    refine ⟨_, _, e, fin _ _ (h.good.takeA _) cm ((Ab.takeA_n _ _).trans nn) (fun s s1 s2 => ?_) (Nx.take h.good j4 (by rw [j3]; exact f2)) (fun x hx => Kx.take h.good hx j4) (fun x hx => ox_take h.good j4 hx)⟩
    have : (al.a.takeA j).cls = al.a.cls := by unfold Ab.takeA; split <;> rfl
    show (al.a.takeA j).cls s = _ ∨ (al.a.takeA j).cls s < 0 ∨ _
    rw [this]
    exact h.cl s s1 s2
  · rw [e] at cm
    obtain ⟨_, t2, _⟩ := first_ok (l := al) j1 j2 j3 f1 (gc_r 1).2
    have g' := h.good.set (s := j) (c := gc 1) j1 f1 (gc_r 1).2
    have hc : (al.a.set j (gc 1)).clsI j = gc 1 := by rw [Ab.clsI_at _ j1 (show j < (al.a.set j (gc 1)).n from j2)]; exact upd_same _ _ _
    have N1 := Nx.take g' t2 (n := 1) (by rw [hc]; exact f2)
    refine ⟨_, _, e, fin _ _ (g'.takeA _) cm ((Ab.takeA_n _ _).trans nn) (fun s s1 s2 => ?_) ⟨N1.is, ?_, N1.pos, N1.fit, N1.zero⟩ (fun x hx => (Kx.set h.good hx j1 j3 f1 (gc_r 1).2).trans (Kx.take g' (Kx.set h.good hx j1 j3 f1 (gc_r 1).2).is t2)) (fun x hx => (ox_take g' t2 hx).imp id (ox_set h.good j1 j3 f1 (gc_r 1).2))⟩
    · have : ((al.a.set j (gc 1)).takeA j).cls = (al.a.set j (gc 1)).cls := by unfold Ab.takeA; split <;> rfl
      show ((al.a.set j (gc 1)).takeA j).cls s = _ ∨ ((al.a.set j (gc 1)).takeA j).cls s < 0 ∨ _
      rw [this]
      show upd al.a.cls j (gc 1) s = _ ∨ upd al.a.cls j (gc 1) s < 0 ∨ _
      by_cases es : s = j
      · subst es; rw [upd_same]; exact Or.inl rfl
      · rw [upd_other _ _ es]; exact h.cl s s1 s2
    · cases hv : al.a.is ((al.a.set j (gc 1)).takeV j)
      · rfl
      · have := (Kx.set h.good hv j1 j3 f1 (gc_r 1).2).is
        rw [N1.no] at this
        cases this
  · exfalso
    have hF : ∀ s : Nat, 1 ≤ s → s < 20 → (s : Int) ≠ gs c → popF 64 (al.a.tk s) = 32 := fun s s1 s2 s3 => by
      have h0 := j1 s s1 (by omega)
      have hc : al.a.cls s = gc 1 := by
        rcases h.cl s s1 s2 with h1 | h1 | h1
        · exact h1
        · omega
        · exact absurd h1 s3
      have hE := hno s s1 (by omega) (by rw [al.a.clsI_at s1 (by omega)]; exact hc)
      have hn := fun hne => hE ((takeE0 s1 (by omega)).2 ⟨h0, hne⟩)
      rw [hc] at hn
      have ht := Decidable.not_not.1 hn
      have : al.a.tk s = (gf (gc 1)).toNat := by omega
      rw [this]
      decide +kernel
    have h1 := sumT_full hF 20 (Nat.le_refl _)
    obtain ⟨L, l1, l2⟩ := h.few
    have h2 := nodup_sub (allT_nodup h.good) fun x hx => l2 x ((allT_mem h.good x).1 hx)
    rw [allT_len, nn] at h2
    split at h1 <;> omega
/-- Words of the channel itself are written. -/
theorem CI.obw (h : CI al c R f ins m) {k : Nat} (hk : k < R + 5) {x : Int} (hx : al.a.is x = true) (hne : x ≠ c) : x ≠ c + (k : Int) := by
  have hg := (is_gw h.good hx).1
  have := h.good.disj hx h.cz.is hne (j := 0) (k := (k : Int)) ⟨by omega, by omega⟩ ⟨by omega, h.cz.fits hk⟩
  omega
theorem CI.push (h : CI al c R f ins m) (hl : ins.length < R) (hv : al.a.is v = true) (hvc : v ≠ c) (hvi : v ∉ ins) : CI ⟨pushB al.a c R f ins.length v, al.u⟩ c R f (ins ++ [v]) m := by
  have hm : (f + ins.length) % R < R := Nat.mod_lt _ (by omega)
  refine ⟨Good.wr (Good.wr h.good _ _) _ _, h.calm, h.n20, h.cz.push _ _, h.cq.push hl v, fun j hj hi => ?_, fun x hx hne => ?_, fun x hx => ?_, nodup_snoc h.nd hvi, h.cl, h.few⟩
  · rw [List.length_append, List.length_singleton] at hi
    have hne := hi ins.length (by omega)
    show ((al.a.write _ v).write _ _).wd _ = 0
    rw [wd_other _ (by omega), wd_other _ (by omega)]
    exact h.zr j hj fun i hi' => hi i (by omega)
  · have hx' : al.a.is x = true := hx
    obtain ⟨o1, o2⟩ := h.ob x hx' hne
    refine ⟨o1, ?_⟩
    have n1 := h.obw (k := 2) (by omega) hx' hne
    have n2 := h.obw (k := 5 + (f + ins.length) % R) (by omega) hx' hne
    show ((al.a.write _ v).write _ _).wd _ = _
    rw [wd_other _ (by omega), wd_other _ (by omega)]
    exact o2
  · rcases List.mem_append.1 hx with e | e
    · exact h.ii x e
    · simp at e
      subst e
      exact ⟨hv, hvc⟩
theorem CI.pop (h : CI al c R f (v :: q) m) : CI ⟨popB al.a c R f (v :: q).length, al.u⟩ c R ((f + 1) % R) q m := by
  have hle := h.cq.len
  rw [List.length_cons] at hle
  have hf := h.cq.fl (by omega)
  refine ⟨Good.wr (Good.wr (Good.wr h.good _ _) _ _) _ _, h.calm, h.n20, h.cz.pop _, h.cq.pop.2, fun j hj hi => ?_, fun x hx hne => ?_, fun x hx => h.ii x (List.mem_cons_of_mem _ hx), (List.nodup_cons.1 h.nd).2, h.cl, h.few⟩
  · show (((al.a.write _ 0).write _ _).write _ _).wd _ = 0
    rw [wd_other _ (by omega), wd_other _ (by omega)]
    by_cases e : j = f
    · subst e
      exact wd_same _ _ _
    · rw [wd_other _ (by omega)]
      refine h.zr j hj fun i hi' => ?_
      rw [List.length_cons] at hi'
      cases i with
      | zero => rw [Nat.add_zero, Nat.mod_eq_of_lt hf]; exact fun e2 => e e2.symm
      | succ i =>
        have := hi i (by omega)
        rw [Nat.mod_add_mod, show f + 1 + i = f + (i + 1) by omega] at this
        exact this
  · have hx' : al.a.is x = true := hx
    obtain ⟨o1, o2⟩ := h.ob x hx' hne
    refine ⟨o1, ?_⟩
    have n1 := h.obw (k := 2) (by omega) hx' hne
    have n2 := h.obw (k := 3) (by omega) hx' hne
    have n3 := h.obw (k := 5 + f) (by omega) hx' hne
    show (((al.a.write _ 0).write _ _).write _ _).wd _ = _
    rw [wd_other _ (by omega), wd_other _ (by omega), wd_other _ (by omega)]
    exact o2
/-- Behind a whole collection. -/
theorem CI.kept (h : CI al c R f ins m) (g2 : al2.a.Good) (c2 : al2.Calm) (n2 : al2.a.n = al.a.n) (w2 : al2.a.wd = al.a.wd) (cl2 : ∀ s, al2.a.cls s = al.a.cls s ∨ al2.a.cls s = -1) (is2 : ∀ x, al2.a.is x = true ↔ al.a.is x = true ∧ (x = c ∨ x ∈ ins)) : CI al2 c R f ins m ∧ sumT al2.a 20 = 1 + ins.length := by
  have hc2 : al2.a.is c = true := (is2 c).2 ⟨h.cz.is, Or.inl rfl⟩
  have ec : al2.a.clsI (gs c) = al.a.clsI (gs c) := by
    obtain ⟨s, p, k1, k2, k3, k4, _, k6, _⟩ := where_is g2 hc2
    rw [k6, al2.a.clsI_at k1 k2, al.a.clsI_at k1 (by rw [← n2]; exact k2)]
    rcases cl2 s with e | e
    · exact e
    · omega
  have hw : ∀ y, al2.a.wd y = al.a.wd y := fun y => by rw [w2]
  refine ⟨⟨g2, c2, n2.trans h.n20, h.cz.on (fun j hj => inW_of hc2 (by rw [ec]; exact h.cz.fits hj)) (fun j _ => hw _), h.cq.on (fun j _ => hw _), fun j hj hi => (hw _).trans (h.zr j hj hi), fun x hx hne => ?_, fun x hx => ?_, h.nd, fun s s1 s2 => ?_, ?_⟩, ?_⟩
  · obtain ⟨o1, o2⟩ := h.ob x ((is2 x).1 hx).1 hne
    exact ⟨o1, (hw x).trans o2⟩
  · obtain ⟨i1, i2⟩ := h.ii x hx
    exact ⟨(is2 x).2 ⟨i1, Or.inr hx⟩, i2⟩
  · rcases cl2 s with e | e
    · rw [e]; exact h.cl s s1 s2
    · rw [e]; exact Or.inr (Or.inl (by decide))
  · obtain ⟨L, l1, l2⟩ := h.few
    exact ⟨L, l1, fun x hx => l2 x ((is2 x).1 hx).1⟩
  · have ht := taken_all g2 (m := c :: ins) (List.nodup_cons.2 ⟨fun e => (h.ii c e).2 rfl, h.nd⟩) fun x => by
      rw [is2 x, List.mem_cons]
      refine ⟨fun e => e.2, fun e => ⟨?_, e⟩⟩
      rcases e with rfl | e
      · exact h.cz.is
      · exact (h.ii x e).1
    rw [n2, h.n20] at ht
    rw [ht, List.length_cons]
    omega
/-! ### the first channel of a new heap -/
def ofB1 (n : Int) : Option (Int × Int × Int × Hd.Shp) → Bool
  | some (a, b, c, s) => decide (a = n) && decide (b = 3) && decide (c = 1) && decide (s.k = 3) && decide (s.f = 0) && decide (s.m = 1)
  | none => false
theorem ofB1_eq {n : Int} : ∀ {o : Option (Int × Int × Int × Hd.Shp)}, ofB1 n o = true → o = some (n, 3, 1, ⟨3, 0, 1⟩)
  | none, h => by cases h
  | some (a, b, c, s), h => by
    simp only [ofB1, Bool.and_eq_true, decide_eq_true_eq] at h
    obtain ⟨⟨⟨⟨⟨rfl, rfl⟩, rfl⟩, h1⟩, h2⟩, h3⟩ := h
    obtain ⟨k, f, m⟩ := s
    obtain rfl : k = 3 := h1
    obtain rfl : f = 0 := h2
    obtain rfl : m = 1 := h3
    rfl
theorem ofW_newA : ∀ R : Fin 60, ofB1 ((R.1 : Int) + 5) (ofW ls5 (Hd.pkV ((R.1 : Int) + 5) 3 1)) = true := by decide +kernel
theorem ci_new (hR : R ≤ 40) : ∃ al' v, (al0 20).take ((R : Int) + 5) = (al', v, 0) ∧ CI ⟨(al'.a.writeA v 0 (Hd.pkV ((R : Int) + 5) 3 1)).writeA v 1 (R : Int), al'.u⟩ v R 0 [] 1 := by
  obtain ⟨al', v, e, rm, N, K, O⟩ := (rm0 (N := 20) (by decide) (by decide)).take (by decide) (n := (R : Int) + 5) (by omega) (by omega)
  have hin : ∀ j : Nat, j < R + 5 → al'.a.inW v (j : Int) = true := fun j hj => inW_of N.is (by have := N.fit; omega)
  have e1 : al'.a.writeA v 0 (Hd.pkV ((R : Int) + 5) 3 1) = al'.a.write (v + ((0 : Nat) : Int)) (Hd.pkV ((R : Int) + 5) 3 1) := if_pos (hin 0 (by omega))
  have e2 : (al'.a.write (v + ((0 : Nat) : Int)) (Hd.pkV ((R : Int) + 5) 3 1)).writeA v 1 (R : Int) = (al'.a.write (v + ((0 : Nat) : Int)) (Hd.pkV ((R : Int) + 5) 3 1)).write (v + ((1 : Nat) : Int)) (R : Int) := if_pos (hin 1 (by omega))
  refine ⟨al', v, e, ?_⟩
  rw [e1, e2]
  obtain ⟨X, hX⟩ : ∃ X : Ab, X = (al'.a.write (v + ((0 : Nat) : Int)) (Hd.pkV ((R : Int) + 5) 3 1)).write (v + ((1 : Nat) : Int)) (R : Int) := ⟨_, rfl⟩
  have hz : ∀ j : Nat, 2 ≤ j → j < R + 5 → X.wd (v + (j : Int)) = 0 := fun j h2 hj => by
    rw [hX, wd_other _ (by omega), wd_other _ (by omega)]
    exact N.zero j (by omega) (by have := N.fit; omega)
  have hi0 : X.inW v 0 = true := by rw [hX]; exact hin 0 (by omega)
  have hV : X.readV v 0 = Hd.pkV ((R : Int) + 5) 3 1 := by
    unfold Ab.readV
    rw [if_pos hi0, hX, wd_other _ (by omega)]
    exact if_pos rfl
  have gX : X.Good := by rw [hX]; exact Good.wr (Good.wr rm.good _ _) _ _
  have isX : ∀ x, X.is x = al'.a.is x := fun x => by rw [hX]; rfl
  have no0 : ∀ x, (al0 20).a.is x = false := fun x => by
    cases hx : (al0 20).a.is x
    · rfl
    · obtain ⟨s, p, _, _, h3, _⟩ := (Ab.is_iff (ab0_good (n := 20) (by decide) (by decide)).ok x).1 hx
      have h3' : 0 ≤ (ab0 20).cls s := h3
      have : (ab0 20).cls s = -1 := rfl
      omega
  have only : ∀ x, X.is x = true → x = v := fun x hx => by
    rw [isX] at hx
    rcases O x hx with e | e
    · exact e
    · rw [no0] at e; cases e
  rw [← hX]
  refine ⟨gX, rm.calm, by rw [hX]; exact rm.n, ⟨⟨1, ⟨3, 0, 1⟩, ?_, by decide⟩, fun j hj => by rw [hX]; exact hin j hj, by rw [hX, show v + 1 = v + ((1 : Nat) : Int) from rfl]; exact wd_same _ _ _, by omega⟩, ⟨hz 2 (by omega) (by omega), hz 3 (by omega) (by omega), hz 4 (by omega) (by omega), Nat.zero_le _, Nat.zero_le _, fun h => h, fun i u hi => by simp at hi⟩, fun j hj _ => ?_, fun x hx hne => absurd (only x hx) hne, fun x hx => (by simp at hx), List.nodup_nil, fun s s1 s2 => ?_, ⟨[v], by simp, fun x hx => by rw [only x hx]; simp⟩⟩
  · rw [ofP_ofW (al := (⟨X, al'.u⟩ : Al)) (if_pos hi0)]
    show ofW ls5 (X.readV v 0) = _
    rw [hV]
    exact ofB1_eq (ofW_newA ⟨R, by omega⟩)
  · have := hz (5 + j) (by omega) (by omega)
    rw [show ((5 + j : Nat) : Int) = 5 + (j : Int) by omega] at this
    exact this
  · have ec : X.cls s = al'.a.cls s := by rw [hX]; rfl
    rcases Nat.lt_or_ge 1 s with h1 | h1
    · exact Or.inr (Or.inl (by show X.cls s < 0; rw [ec]; exact rm.free s h1 s2))
    · obtain rfl : s = 1 := by omega
      refine Or.inr (Or.inr ?_)
      obtain ⟨t, p, k1, k2, k3, k4, _, k6, _⟩ := where_is rm.good N.is
      rw [k6]
      rcases Nat.lt_or_ge 1 t with h2 | h2
      · have := rm.free t h2 (by rw [← rm.n]; exact k2)
        omega
      · have : t = 1 := by omega
        rw [this]
end
end Go.Proofs.YtgflkpccddfalaaGreatDoor

/- ChansHolds: the holder's roots; Make, Push, Pop, a whole collection over the heap, with the law's own row beside it. -/
namespace Go.Proofs.YtgflkpccddfalaaGreatDoor
set_option maxRecDepth 100000
open Go.ChangeShapes Go.WideShapes Go.ChangeAt Go.RowKit Go.Maps Go.ChangeMaps Go.MapKept Go.Deep

theorem info_64q : (Tryz.prog.info? 2).map (fun i => (i.zero, i.size, i.bytes)) = some (some (.int .i64 0), 1, 8) := by kernel_rfl
theorem row_kept {w w' : World} {B n z : Nat} {T : TypeId} {v : Value} {l : List Value} (h : w.ownsRow B T z v n l) (e : ∀ k, v.ownBlock = some k → w'.heap[k]? = w.heap[k]?) : w'.ownsRow B T z v n l := by
  refine ⟨h.1, ?_⟩
  rcases h.2 with h0 | ⟨g, cp, cur, e1, e2, e3, e4⟩
  · exact Or.inl h0
  · exact Or.inr ⟨g, cp, cur, e1, e2, (e g (by rw [e1]; rfl)).trans e3, e4⟩
/-- Append of one new element that lies in a block of its own. -/
theorem row_cell {w : World} {B n z : Nat} {T : TypeId} {v : Value} {l : List Value} (h : w.ownsRow B T z v n l) {j : Nat} {u : Value} (hj : l[j]? = some u) : ∃ g cap, v = .slice (some ⟨g, 0, none⟩) n cap ∧ w.cell? ⟨g, j, none⟩ = some u := by
  rcases h.2 with ⟨rfl, rfl⟩ | ⟨g, cap, cur, rfl, _, e3, _, _, _, e7⟩
  · have := h.1
    rw [Nat.zero_mul] at this
    rw [List.length_eq_zero_iff.1 this] at hj
    simp at hj
  · refine ⟨g, cap, rfl, ?_⟩
    rw [cell_of_row _ _ _ _ _ _ e3]
    rw [← e7] at hj
    rw [List.getElem?_take] at hj
    split at hj
    · simpa using hj
    · cases hj
theorem is_row {w : World} {B : Nat} {v : Value} {hs : List Int} (h : w.ownsRow B 2 1 v hs.length (hs.map fun x => Value.int .i64 x)) : ∃ bo bc, v = .slice bo hs.length bc ∧ Gy.IsI w bo hs ∧ ∀ d ∈ Gy.blk bo, B ≤ d ∧ d < w.heap.size := by
  rcases h.2 with ⟨e, e2⟩ | ⟨g, cp, cur, e, e3, e4, _⟩
  · obtain rfl : hs = [] := List.eq_nil_of_length_eq_zero e2
    exact ⟨none, 0, e, Or.inl rfl, fun d hd => by simp [Gy.blk] at hd⟩
  · have hl : g < w.heap.size := (Array.getElem?_eq_some_iff.1 e4).1
    refine ⟨some ⟨g, 0, none⟩, cp, e, Or.inr ⟨g, 0, rfl, hl, fun i x hi => ?_⟩, fun d hd => by
      have : d = g := by simpa [Gy.blk] using hd
      omega⟩
    obtain ⟨g', cap', e', c'⟩ := row_cell h (j := i) (u := .int .i64 x) (by rw [List.getElem?_map, hi]; rfl)
    rw [e] at e'
    obtain ⟨rfl, _⟩ : g = g' ∧ True := by
      simp at e'
      exact ⟨e'.1, trivial⟩
    rw [Nat.zero_add]
    exact c'
set_option maxHeartbeats 1000000 in
theorem hd_globals {w : World} {hb S : Nat} {rv : Value} {hs : List Int} (hc : w.cell? ⟨hb, 0, none⟩ = some rv) (hr : w.ownsRow S 2 1 rv hs.length (hs.map fun x => Value.int .i64 x)) (hn : hs.length ≤ 10000) : Calls Tryz.prog 127 #[.pointer (some ⟨hb, 0, none⟩)] w fun e w' => ∃ bo bc, e = .returned (.slice bo hs.length bc) ∧ NwR w w' bo hs := by
  have c0 := (G.alloc w (.cells #[] 2)).cell hc
  have ga := G.alloc w (.cells #[] 2)
  rcases hr.2 with ⟨rfl, e2⟩ | ⟨g, cp, cur, e, e3, e4, _⟩
  · obtain rfl : hs = [] := List.eq_nil_of_length_eq_zero e2
    obtain ⟨i, hi⟩ : ∃ i, Tryz.prog.info? 2 = some i := Option.isSome_iff_exists.1 (by kernel_rfl)
    have ho : Hid ((w.alloc (.cells #[] 2)).ownsRow 0 2 1 (.slice (some ⟨w.heap.size, 0, none⟩) 0 0) 0 []) := hide ⟨by simp, Or.inr ⟨w.heap.size, 0, #[], rfl, Nat.zero_le _, heap_alloc_new w _, Nat.le_refl _, by unfold maxLen; omega, rfl, rfl⟩⟩
    have Z : Hid (NwR w (w.alloc (.cells #[] 2)) (some ⟨w.heap.size, 0, none⟩) []) := hide ⟨Or.inl rfl, fun d hd => by
      have : d = w.heap.size := by simpa [Gy.blk] using hd
      rw [World.size_alloc]
      omega, ga⟩
    clear hr hc e2
    go_enter Tryz.func127, Tryz.ntmps127
    go_wp2_with (at_builtin; refine wpList_append_own_none rfl _ _ 31 rfl 0 2 i 1 Tryz.underlying31 hi _ 0 [] rfl (unhide ho) rfl ?_)
    go_ret
    exact ⟨_, _, rfl, unhide Z⟩
  · obtain ⟨i, hi, hz, hs1, hb1⟩ := info_parts info_64q
    have ho : (w.alloc (.cells #[] 2)).ownsRow w.heap.size 2 1 (.slice (some ⟨w.heap.size, 0, none⟩) 0 0) 0 [] := ⟨by simp, Or.inr ⟨w.heap.size, 0, #[], rfl, Nat.le_refl _, heap_alloc_new w _, Nat.le_refl _, by unfold maxLen; omega, rfl, rfl⟩⟩
    obtain ⟨v', w', hrun, r1, r2, _, _⟩ := run_append_own_at (P := Tryz.prog) (w.alloc (.cells #[] 2)) w.heap.size 31 31 2 i _ 1 8 Tryz.underlying31 hi hz hs1 hb1 rfl (by decide) _ 0 [] ho ⟨g, 0, none⟩ hs.length cp (hs.map fun x => Value.int .i64 x) (by simp) (fun j u hj => by
      obtain ⟨g', cap', e', c'⟩ := row_cell hr hj
      rw [e] at e'
      obtain ⟨rfl, _⟩ : g = g' ∧ True := by
        simp at e'
        exact ⟨e'.1, trivial⟩
      rw [Addr.add_lit, Nat.zero_add]
      exact ga.cell c') (fun u hu => by
      obtain ⟨z, _, rfl⟩ := List.mem_map.1 hu
      rfl) (by unfold maxLen; omega) (by omega) ga.size
    rw [Nat.zero_add, List.nil_append] at r1
    have gg : G w w' := ⟨r2.os.trans ga.os, r2.tape.trans ga.tape, r2.output.trans ga.output, Nat.le_trans ga.size r2.size, fun d hd => (r2.block d (Nat.lt_of_lt_of_le hd ga.size) (fun e => by
      have : d = w.heap.size := by simpa [Value.ownBlock] using e
      omega)).trans (ga.block d hd)⟩
    obtain ⟨bo, bc, e9, i9, l9⟩ := is_row r1
    have Z : Hid (NwR w w' bo hs) := hide ⟨i9, l9, gg⟩
    rw [e9] at hrun
    obtain ⟨N, hN⟩ : ∃ N, hs.length = N := ⟨_, rfl⟩
    rw [e] at c0
    rw [hN] at hrun c0 ⊢
    clear hr hc e e3 e4 ho r1 r2 gg i9 l9 hN hn e9
    go_enter Tryz.func127, Tryz.ntmps127
    go_wp2_with (at_builtin; refine wpl_aph rfl (.tmp 3) (.tmp 7) 31 rfl _ _ rfl rfl _ _ hrun ?_)
    go_ret
    exact ⟨_, _, rfl, unhide Z⟩
theorem hd_stacks (w : World) (p : Option Addr) : Calls Tryz.prog 129 #[.pointer p] w fun e w' => e = .returned (.slice none 0 0) ∧ w' = w := by
  go_enter Tryz.func129, Tryz.ntmps129
  go_wp2_with fail
  go_ret
  exact ⟨rfl, rfl⟩
theorem hd_stack (w : World) (p : Option Addr) (i : Int) : Calls Tryz.prog 128 #[.pointer p, .int .i64 i] w fun e w' => e = .returned (.slice none 0 0) ∧ w' = w := by
  go_enter Tryz.func128, Tryz.ntmps128
  go_wp2_with fail
  go_ret
  exact ⟨rfl, rfl⟩
/-- All blocks of the Heap. -/
def hgB (x : Hx) (ao : Option Addr) (nv : Value) (qs : List Nat) (d : Nat) : Prop := ownW x qs d ∨ d = x.xl.d.ab ∨ d = x.xl.lb ∨ d = x.b.kb ∨ d = x.b.tb ∨ d = x.tm ∨ (∃ a, ao = some a ∧ d = a.block) ∨ d = x.lm ∨ nv.ownBlock = some d
theorem HC.beside {W w w' : World} {x : Hx} {n : Nat} {ao : Option Addr} {cap : Nat} {nv : Value} {fc : Int} {C : Cy} {qs : List Nat} (h : HC W x n ao cap nv fc w C qs) (bl : Below W.heap.size W w') (hs : w.heap.size ≤ w'.heap.size) (k : ∀ d, d < w.heap.size → hgB x ao nv qs d → w'.heap[d]? = w.heap[d]?) : HC W x n ao cap nv fc w' C qs := by
  obtain ⟨c, h⟩ := h
  obtain ⟨l1, l2, l3, l4, l5⟩ := h.alt
  obtain ⟨e1, e2, e3, e4, e5⟩ := h.clt
  have kk := k x.b.kb e2 (Or.inr (Or.inr (Or.inr (Or.inl rfl))))
  have kh := k x.hb e5 (Or.inl (Or.inr rfl))
  have kcb := k x.b.cb e1 (Or.inl (Or.inl (Or.inr (Or.inr (Or.inr (Or.inl rfl))))))
  refine ⟨c, h.st.kept bl fun d hd => ?_, h.cb.kept kcb, h.mp.kept (k _ e3 (Or.inl (Or.inl (Or.inr (Or.inr (Or.inr (Or.inr (Or.inl rfl)))))))), (World.cell?_of_block (a := ⟨x.b.kb, 0, none⟩) kk).trans h.k0, (World.cell?_of_block (a := ⟨x.b.kb, 2, none⟩) kk).trans h.k2, (World.cell?_of_block (a := ⟨x.b.kb, 1, none⟩) kk).trans h.k1, h.que.kept (k _ e4 (Or.inl (Or.inl (Or.inr (Or.inr (Or.inr (Or.inr (Or.inr (Or.inl rfl))))))))) (fun d hd => k d (h.que.ltb d hd) (Or.inl (Or.inl (Or.inr (Or.inr (Or.inr (Or.inr (Or.inr (Or.inr hd))))))))), h.tab.kept (k _ h.tab.tlt (Or.inr (Or.inr (Or.inr (Or.inr (Or.inl rfl)))))) (k _ h.tab.mlt (Or.inr (Or.inr (Or.inr (Or.inr (Or.inr (Or.inl rfl))))))) (fun a ha => k _ (h.tab.aoB a ha).2 (Or.inr (Or.inr (Or.inr (Or.inr (Or.inr (Or.inr (Or.inl ⟨a, ha, rfl⟩)))))))), (World.cell?_of_block (a := ⟨x.hb, 0, none⟩) kh).trans h.h0, (World.cell?_of_block (a := ⟨x.hb, 1, none⟩) kh).trans h.h1, (World.cell?_of_block (a := ⟨x.hb, 2, none⟩) kh).trans h.h2, (World.cell?_of_block (a := ⟨x.hb, 3, none⟩) kh).trans h.h3, fun i => (World.frozen?_of_block (a := ⟨x.hb, i, none⟩) kh).trans (h.hf i), nr_kept h.num (fun q hq => k q (h.nlt q hq) (Or.inr (Or.inr (Or.inr (Or.inr (Or.inr (Or.inr (Or.inr (Or.inr hq))))))))), h.lmp.kept (k _ h.lt (Or.inr (Or.inr (Or.inr (Or.inr (Or.inr (Or.inr (Or.inr (Or.inl rfl))))))))), h.lo, h.lq, Nat.lt_of_lt_of_le h.lt hs, h.a1, h.a2, h.kc, h.cq, h.c3, h.c4, h.c5, h.c6, h.c7, h.c8⟩
  rcases hd with rfl | rfl | rfl | rfl | rfl
  · exact k _ l1 (Or.inr (Or.inl rfl))
  · exact k _ l2 (Or.inl (Or.inl (Or.inl rfl)))
  · exact k _ l3 (Or.inl (Or.inl (Or.inr (Or.inl rfl))))
  · exact k _ l4 (Or.inl (Or.inl (Or.inr (Or.inr (Or.inl rfl)))))
  · exact k _ l5 (Or.inr (Or.inr (Or.inl rfl)))
theorem hc_low {W w : World} {x : Hx} {n : Nat} {ao : Option Addr} {cap : Nat} {nv : Value} {fc : Int} {C : Cy} {qs : List Nat} (h : HC W x n ao cap nv fc w C qs) {d : Nat} (hd : hgB x ao nv qs d) : d < w.heap.size := by
  have h1 : ownQ x qs d → d < w.heap.size := fun e => h.lt e
  obtain ⟨c, h⟩ := h
  obtain ⟨l1, l2, l3, l4, l5⟩ := h.alt
  obtain ⟨e1, e2, e3, e4, e5⟩ := h.clt
  rcases hd with (e | rfl) | rfl | rfl | rfl | rfl | rfl | ⟨a, ha, rfl⟩ | rfl | e
  · exact h1 e
  · exact e5
  · exact l1
  · exact l5
  · exact e2
  · exact h.tab.tlt
  · exact h.tab.mlt
  · exact (h.tab.aoB a ha).2
  · exact h.lt
  · exact h.nlt d e
/-- the holder's list: where it lies, beside the heap. -/
structure Rl (x : Hx) (ao : Option Addr) (nv : Value) (hb S : Nat) (rv : Value) (hs : List Int) (qs : List Nat) (y : World) : Prop where
  c : y.cell? ⟨hb, 0, none⟩ = some rv
  f : y.frozen? ⟨hb, 0, none⟩ = false
  row : y.ownsRow S 2 1 rv hs.length (hs.map fun x => Value.int .i64 x)
  n1 : ¬ hgB x ao nv qs hb
  n2 : ∀ d, rv.ownBlock = some d → ¬ hgB x ao nv qs d ∧ d ≠ hb
section
variable {x : Hx} {ao : Option Addr} {nv : Value} {hb S : Nat} {rv : Value} {hs : List Int} {qs qs' : List Nat} {y y' : World}
theorem hgB.fr {d : Nat} (F : Fr (ownW x qs) (ownW x qs') y y') (h : hgB x ao nv qs' d) (hd : d < y.heap.size) : hgB x ao nv qs d := by
  rcases h with e | e
  · rcases F.more d e with e | e
    · exact Or.inl e
    · omega
  · exact Or.inr e
theorem Rl.fr (h : Rl x ao nv hb S rv hs qs y) (F : Fr (ownW x qs) (ownW x qs') y y') : Rl x ao nv hb S rv hs qs' y' := by
  have lb : hb < y.heap.size := World.block_lt_of_cell? y _ h.c
  have kb := F.kept hb lb (fun e => h.n1 (Or.inl e))
  exact ⟨(World.cell?_of_block (a := ⟨hb, 0, none⟩) kb).trans h.c, (World.frozen?_of_block (a := ⟨hb, 0, none⟩) kb).trans h.f, row_kept h.row fun d hd => F.kept d (h.row.lt d hd).2 (fun e => (h.n2 d hd).1 (Or.inl e)), fun ho => h.n1 (ho.fr F lb), fun d hd => ⟨fun ho => (h.n2 d hd).1 (ho.fr F (h.row.lt d hd).2), (h.n2 d hd).2⟩⟩
def rtN (hs : List Int) : Rt := ⟨hs, [], fun _ => []⟩
theorem rts_nb (x : Hx) (ao : Option Addr) (nv : Value) (hb S : Nat) (rv : Value) (hs : List Int) (hn : hs.length ≤ 10000) : Rts x (rtN hs) (some ⟨hb, 0, none⟩) (Rl x ao nv hb S rv hs) := by
  refine ⟨fun qs qs' y y' h F => h.fr F.up, fun qs y h => hd_globals h.c h.row hn, fun qs y h => (hd_stacks y _).mono fun e w' hh => ⟨none, 0, hh.1, ?_⟩, fun qs y id h => (hd_stack y _ id).mono fun e w' hh => ⟨none, 0, hh.1, ?_⟩, hn, Nat.zero_le _, fun _ => Nat.zero_le _, fun id h => by cases h⟩
  · rw [hh.2]; exact ⟨Or.inl rfl, fun d hd => by simp [Gy.blk] at hd, G.refl _⟩
  · rw [hh.2]; exact ⟨Or.inl rfl, fun d hd => by simp [Gy.blk] at hd, G.refl _⟩
end
end Go.Proofs.YtgflkpccddfalaaGreatDoor

/- ChansHolds: what is known between two calls; the calls. -/
namespace Go.Proofs.YtgflkpccddfalaaGreatDoor
set_option maxRecDepth 100000
open Go.ChangeShapes Go.WideShapes Go.ChangeAt Go.RowKit Go.Maps Go.ChangeMaps Go.MapKept Go.Deep

/-- The heap with its channel and the law's own row beside it; P: what else is known of the allocator. -/
structure CHw (W : World) (x : Hx) (ao : Option Addr) (cap : Nat) (nv : Value) (hb S : Nat) (rv : Value) (c : Int) (R : Nat) (ins : List Int) (m : Nat) (P : Al → Prop) (lo : Option Addr) (lc : Nat) (li : List Int) (w : World) : Prop where
  is : ∃ al kept done qs f, HC W x 3 ao cap nv 0 w ⟨⟨al, ls5, []⟩, 0, [], kept, done⟩ qs ∧ Rl x ao nv hb S rv [c] qs w ∧ (0 ≤ done ∧ done ≤ (m : Int)) ∧ CI al c R f ins m ∧ P al ∧ Gy.RowW w S lo lc li ∧ ∀ d ∈ Gy.blk lo, ¬ hgB x ao nv qs d ∧ d ≠ hb ∧ rv.ownBlock ≠ some d
section
variable {W w w' : World} {x : Hx} {ao lo lo' : Option Addr} {cap lc lc' : Nat} {nv rv : Value} {hb S R m : Nat} {c v : Int} {ins li li' q : List Int} {P : Al → Prop} {qs qs' : List Nat}
theorem row_fr (r : Gy.RowW w S lo lc li) (n : ∀ d ∈ Gy.blk lo, ¬ hgB x ao nv qs d ∧ d ≠ hb ∧ rv.ownBlock ≠ some d) (F : Fr (ownW x qs) (ownW x qs') w w') : Gy.RowW w' S lo lc li ∧ ∀ d ∈ Gy.blk lo, ¬ hgB x ao nv qs' d ∧ d ≠ hb ∧ rv.ownBlock ≠ some d :=
  ⟨r.kept fun d hd => F.kept d (r.lo d hd).2 (fun e => (n d hd).1 (Or.inl e)), fun d hd => ⟨fun ho => (n d hd).1 (ho.fr F (r.lo d hd).2), (n d hd).2⟩⟩
theorem CHw.gr (h : CHw W x ao cap nv hb S rv c R ins m P lo lc li w) (g : G w w') : CHw W x ao cap nv hb S rv c R ins m P lo lc li w' := by
  obtain ⟨al, kept, done, qs, f, H, L, hd, I, p, r, n⟩ := h.is
  obtain ⟨r', n'⟩ := row_fr r n (Fr.of_G (o := ownW x qs) g)
  exact ⟨al, kept, done, qs, f, H.gr g, L.fr (Fr.of_G g), hd, I, p, r', n'⟩
theorem CI.more {al : Al} {f : Nat} (h : CI al c R f ins m) : CI al c R f ins (m + 1) :=
  ⟨h.good, h.calm, h.n20, h.cz, h.cq, h.zr, h.ob, h.ii, h.nd, h.cl, by obtain ⟨L, l1, l2⟩ := h.few; exact ⟨L, by omega, l2⟩⟩
theorem CHw.more (h : CHw W x ao cap nv hb S rv c R ins m P lo lc li w) : CHw W x ao cap nv hb S rv c R ins (m + 1) (fun _ => True) lo lc li w := by
  obtain ⟨al, kept, done, qs, f, H, L, hd, I, p, r, n⟩ := h.is
  exact ⟨al, kept, done, qs, f, H, L, by omega, I.more, trivial, r, n⟩
theorem CHw.below (h : CHw W x ao cap nv hb S rv c R ins m P lo lc li w) : Below W.heap.size W w := by
  obtain ⟨al, kept, done, qs, f, H, _⟩ := h.is
  exact H.st.below
theorem CHw.len (h : CHw W x ao cap nv hb S rv c R ins m P lo lc li w) : ins.length ≤ R := by
  obtain ⟨al, kept, done, qs, f, H, L, hd, I, _⟩ := h.is
  exact I.cq.len
/-- The law's row is another. -/
theorem CHw.app (h : CHw W x ao cap nv hb S rv c R ins m P lo lc li w) (A : Gy.App w w' S lo lo' lc' li') (hS : S ≤ w.heap.size) (hW : W.heap.size ≤ S) : CHw W x ao cap nv hb S rv c R ins m P lo' lc' li' w' := by
  obtain ⟨al, kept, done, qs, f, H, L, hd, I, p, r, n⟩ := h.is
  obtain ⟨r', hb', gx⟩ := A
  have kp : ∀ d, d < w.heap.size → d ∉ Gy.blk lo → w'.heap[d]? = w.heap[d]? := gx.block
  have bl : Below W.heap.size W w' := by
    refine Below.trans H.st.below ⟨gx.os, gx.tape, gx.output, gx.size, fun d hd => ?_⟩
    refine kp d (by omega) fun e => ?_
    have := (r.lo d e).1
    omega
  have lb : hb < w.heap.size := World.block_lt_of_cell? w _ L.c
  have kb := kp hb lb (fun e => (n hb e).2.1 rfl)
  refine ⟨al, kept, done, qs, f, H.beside bl gx.size fun d hd ho => kp d hd fun e => (n d e).1 ho, ⟨(World.cell?_of_block (a := ⟨hb, 0, none⟩) kb).trans L.c, (World.frozen?_of_block (a := ⟨hb, 0, none⟩) kb).trans L.f, row_kept L.row fun d hd => kp d (L.row.lt d hd).2 fun e => (n d e).2.2 hd, L.n1, L.n2⟩, hd, I, p, r', fun d hd => ?_⟩
  rcases hb' with e | e
  · rw [e] at hd; exact n d hd
  · rw [e] at hd
    simp at hd
    subst hd
    exact ⟨fun ho => by have := hc_low H ho; omega, by omega, fun ho => by have := (L.row.lt _ ho).2; omega⟩
/-- It is cut from the front. -/
theorem CHw.cut (h : CHw W x ao cap nv hb S rv c R ins m P lo lc (v :: li) w) : ∃ g off, lo = some ⟨g, off, none⟩ ∧ w.cell? ⟨g, off, none⟩ = some (.int .i64 v) ∧ 0 < lc ∧ CHw W x ao cap nv hb S rv c R ins m P (if lc = 1 then some ⟨g, off, none⟩ else some ⟨g, off + 1, none⟩) (lc - 1) li w := by
  obtain ⟨al, kept, done, qs, f, H, L, hd, I, p, r, n⟩ := h.is
  obtain ⟨g, off, rfl, h1, h2, r'⟩ := r.tail
  refine ⟨g, off, rfl, h1, h2, al, kept, done, qs, f, H, L, hd, I, p, r', fun d hd => n d ?_⟩
  split at hd <;> simpa [Gy.blk] using hd
theorem CHw.rowW (h : CHw W x ao cap nv hb S rv c R ins m P lo lc li w) : Gy.RowW w S lo lc li := by
  obtain ⟨al, kept, done, qs, f, H, L, hd, I, p, r, n⟩ := h.is
  exact r
theorem CHw.sz (h : CHw W x ao cap nv hb S rv c R ins m P lo lc li w) : hb < w.heap.size := by
  obtain ⟨al, kept, done, qs, f, H, L, _⟩ := h.is
  exact World.block_lt_of_cell? w _ L.c
/-- Make: it never refuses. -/
theorem ch_make (h : Hid (CHw W x ao cap nv hb S rv c R ins m P lo lc li w)) (hm : m ≤ 300) :
    ∃ v, v ∉ ins ∧ v ≠ c ∧ Calls Tryz.prog 8 #[.pointer (some ⟨x.hb, 0, none⟩), .int .i64 2, .int .i64 1, .iface 30 (.pointer (some ⟨hb, 0, none⟩))] w fun r w' => r = .returned (.tuple #[.int .i64 v, .int .i64 0]) ∧ CHw W x ao cap nv hb S rv c R ins (m + 1) (fun al => al.a.is v = true) lo lc li w' := by
  obtain ⟨al, kept, done, qs, f, H, L, hd, I, p, r, n⟩ := (unhide h).is
  obtain ⟨al', v, e, vn, vc, I', vi⟩ := I.take hm
  refine ⟨v, vn, vc, (hc_make_of (C1 := ⟨⟨al', ls5, []⟩, 0, [], kept, done⟩) (hide H) 2 (by decide) ⟨0, 0, 0⟩ rfl 1 v (by omega) (by omega) _ (hide (hc_take_ok (hide H) rfl 1 v al' (hide e) _))).mono ?_⟩
  rintro r w' ⟨hr, q', H', F'⟩
  obtain ⟨r', n'⟩ := row_fr ‹Gy.RowW w S lo lc li› n F'
  exact ⟨hr, _, kept, done, q', f, H', L.fr F', by omega, I', vi, r', n'⟩
theorem bar_off (W : World) (x : Hx) (ao : Option Addr) (cap : Nat) (nv : Value) (kept done : Int) (al : Al) (g : Gq) (o v id : Int) : BarC (HGq W x ls5 3 ao cap nv 0 kept done 0 []) (ownG x) x.b.cb al g o v id al (fun g2 => g2 = g) := fun y hy =>
  (g_barrier0 rfl (hide hy) o v id).mono fun _ _ hh => ⟨hh.1, g, rfl, by rw [hh.2]; exact hy, by rw [hh.2]; exact Fr.of_G (G.refl _)⟩
theorem ch_push (h : Hid (CHw W x ao cap nv hb S rv c R ins m (fun al => al.a.is v = true) lo lc li w)) (hl : ins.length < R) (hvc : v ≠ c) (hvi : v ∉ ins) :
    Calls Tryz.prog 9 #[.pointer (some ⟨x.hb, 0, none⟩), .int .i64 c, .int .i64 v, .int .i64 1] w fun e w' => e = .returned (.bool true) ∧ CHw W x ao cap nv hb S rv c R (ins ++ [v]) m (fun _ => True) lo lc li w' := by
  obtain ⟨al, kept, done, qs, f, ⟨cc, H⟩, L, hd, I, p, r, n⟩ := (unhide h).is
  refine (c_push (hide (hv_hg W x ls5 3 ao cap nv 0 kept done 0 [] ls5_m)) (g := ⟨cc, [], qs⟩) (hide H) I.cz I.cq hl v 1 _ (fun g2 => g2 = ⟨cc, [], qs⟩) (fun _ => bar_off W x ao cap nv kept done _ _ _ v 1) (fun e => by cases e) (I.cz.write (by omega) (by omega))).mono ?_
  rintro e w' ⟨he, g2, rfl, S2, F⟩
  have F' : Fr (ownQ x qs) (ownQ x qs) w w' := F
  obtain ⟨r', n'⟩ := row_fr r n F'.up
  exact ⟨he, ⟨pushB al.a c R f ins.length v, al.u⟩, kept, done, qs, f, ⟨cc, S2⟩, L.fr F'.up, hd, I.push hl p hvc hvi, trivial, r', n'⟩
theorem ch_push_full (h : Hid (CHw W x ao cap nv hb S rv c R ins m P lo lc li w)) (hl : R ≤ ins.length) (v : Int) :
    Calls Tryz.prog 9 #[.pointer (some ⟨x.hb, 0, none⟩), .int .i64 c, .int .i64 v, .int .i64 1] w fun e w' => e = .returned (.bool false) ∧ CHw W x ao cap nv hb S rv c R ins m P lo lc li w' := by
  obtain ⟨al, kept, done, qs, f, ⟨cc, H⟩, L, hd, I, p, r, n⟩ := (unhide h).is
  exact (c_push_full (hide (hv_hg W x ls5 3 ao cap nv 0 kept done 0 [] ls5_m)) (g := ⟨cc, [], qs⟩) (hide H) I.cz I.cq (Or.inr hl) v 1).mono fun _ _ hh => ⟨hh.1, (unhide h).gr hh.2⟩
theorem ch_pop (h : Hid (CHw W x ao cap nv hb S rv c R (v :: q) m P lo lc li w)) :
    Calls Tryz.prog 10 #[.pointer (some ⟨x.hb, 0, none⟩), .int .i64 c] w fun e w' => e = .returned (.tuple #[.int .i64 v, .bool true]) ∧ CHw W x ao cap nv hb S rv c R q m (fun _ => True) lo lc li w' := by
  obtain ⟨al, kept, done, qs, f, ⟨cc, H⟩, L, hd, I, p, r, n⟩ := (unhide h).is
  refine (c_pop (hide (hv_hg W x ls5 3 ao cap nv 0 kept done 0 [] ls5_m)) (g := ⟨cc, [], qs⟩) (hide H) I.cz I.cq _ (fun g2 => g2 = ⟨cc, [], qs⟩) (fun _ => bar_off W x ao cap nv kept done _ _ _ 0 (-1)) (fun e => by cases e) (I.cz.write (by omega) (by omega))).mono ?_
  rintro e w' ⟨he, g2, rfl, S2, F⟩
  have F' : Fr (ownQ x qs) (ownQ x qs) w w' := F
  obtain ⟨r', n'⟩ := row_fr r n F'.up
  exact ⟨he, ⟨popB al.a c R f (v :: q).length, al.u⟩, kept, done, qs, (f + 1) % R, ⟨cc, S2⟩, L.fr F'.up, hd, I.pop, trivial, r', n'⟩
theorem ch_pop_empty (h : Hid (CHw W x ao cap nv hb S rv c R [] m P lo lc li w)) :
    Calls Tryz.prog 10 #[.pointer (some ⟨x.hb, 0, none⟩), .int .i64 c] w fun e w' => e = .returned (.tuple #[.int .i64 0, .bool false]) ∧ CHw W x ao cap nv hb S rv c R [] m P lo lc li w' := by
  obtain ⟨al, kept, done, qs, f, ⟨cc, H⟩, L, hd, I, p, r, n⟩ := (unhide h).is
  exact (c_pop_empty (hide (hv_hg W x ls5 3 ao cap nv 0 kept done 0 [] ls5_m)) (g := ⟨cc, [], qs⟩) (hide H) I.cz I.cq).mono fun _ _ hh => ⟨hh.1, (unhide h).gr hh.2⟩
/-- A whole collection. -/
theorem ch_whole (h : Hid (CHw W x ao cap nv hb S rv c R ins m P lo lc li w)) (hm : m ≤ 100000) :
    Calls Tryz.prog 12 #[.pointer (some ⟨x.b.cb, 0, none⟩), .iface 30 (.pointer (some ⟨hb, 0, none⟩))] w fun e w' => e = .returned (.tuple #[]) ∧ CHw W x ao cap nv hb S rv c R ins (m + 1) (fun al => sumT al.a 20 = 1 + ins.length) lo lc li w' := by
  obtain ⟨al, kept, done, qs, f, H, L, hd, I, p, r, n⟩ := (unhide h).is
  obtain ⟨l, l1, l2, l3⟩ := I.fc []
  have hlen : l.length ≤ 9000 := by
    have := nodup_sub l2 fun y hy => (l3 y).1 hy
    have := I.cq.len
    have := I.cz.r0
    omega
  obtain ⟨J, r1, r2, r3, r4⟩ := whole2_runs (rtN [c]) rfl rfl ⟨⟨al, ls5, []⟩, 0, [], kept, done⟩ rfl rfl (by show 0 ≤ done ∧ done ≤ 1000000; omega) I.good I.calm I.cz.is l1 l2 (fun e => (I.ii c ((l3 c).1 e)).2 rfl) hlen (fun y hy => by
    obtain ⟨i1, i2⟩ := I.ii y ((l3 y).1 hy)
    exact ⟨i1, I.nf [] i1 i2⟩)
  refine (c_whole (hide H) rfl (by show (0 : Nat) ≤ 10000; omega) (hide (rts_nb x ao nv hb S rv [c] (by simp))) (hide L) (hide r1)).mono ?_
  rintro e w' ⟨he, q', H', F⟩
  obtain ⟨r', n'⟩ := row_fr r n F.up
  obtain ⟨C2, hC2⟩ : ∃ C2, (Cy.startC ⟨⟨al, ls5, []⟩, 0, [], kept, done⟩ (rtN [c])).stepsC (rtN [c]) J = C2 := ⟨_, rfl⟩
  rw [hC2] at r2 r3 r4 H'
  obtain ⟨⟨al2, T2, g2⟩, ph2, bk2, kept2, done2⟩ := C2
  obtain rfl : ph2 = 0 := r2.ph
  obtain rfl : bk2 = [] := r2.bk
  obtain rfl : T2 = ls5 := r2.T
  obtain rfl : g2 = [] := r3
  obtain rfl : done2 = done + 1 := r2.dn
  obtain ⟨I2, s2⟩ := I.kept r2.good r2.calm r2.n r2.wd r2.cls (fun y => by
    rw [show al2.a.is y = true ↔ _ from r4 y, List.mem_cons, l3 y])
  exact ⟨he, al2, kept2, done + 1, q', f, H', L.fr F.up, by omega, I2.more, s2, r', n'⟩
/-- How it begins. -/
theorem ch_start {w2 w3 w4 w6 : World} {al : Al} {c0 : Nat → Nat} (h : HS W w2 x (al0 20) ls5 3 ao cap nv c0) (hw3 : w3 = w2.alloc (.cells #[.slice none 0 0] 33))
    (S4 : HS W w4 x al ls5 3 ao cap nv (fun d => if w2.heap.size ≤ d then 9 else c0 d)) (K : Kp3 w3 (fun d => if w2.heap.size ≤ d then 9 else c0 d) w4) (I : CI al c R 0 [] 1)
    (hw6 : w6 = (w4.alloc (.cells #[.int .i64 c] 2)).setCell ⟨w2.heap.size, 0, none⟩ (.slice (some ⟨w4.heap.size, 0, none⟩) 1 1)) :
    w4.cell? ⟨w2.heap.size, 0, none⟩ = some (.slice none 0 0) ∧ w4.frozen? ⟨w2.heap.size, 0, none⟩ = false ∧ CHw W x ao cap nv w2.heap.size w2.heap.size (.slice (some ⟨w4.heap.size, 0, none⟩) 1 1) c R [] 1 (fun _ => True) none 0 [] w6 := by
  obtain ⟨_, HG2⟩ := h.hG
  have H2 : HC W x 3 ao cap nv 0 w2 ⟨⟨al0 20, ls5, []⟩, 0, [], 64, 0⟩ [] := ⟨_, HG2⟩
  obtain ⟨_, HG4⟩ := S4.hG
  have H4 : HC W x 3 ao cap nv 0 w4 ⟨⟨al, ls5, []⟩, 0, [], 64, 0⟩ [] := ⟨_, HG4⟩
  have b3 : w3.heap[w2.heap.size]? = some (.cells #[.slice none 0 0] 33 (0, 0)) := by rw [hw3]; exact heap_alloc_new _ _
  have z3 : w3.heap.size = w2.heap.size + 1 := by rw [hw3, World.size_alloc]
  have z4 := K.1
  have b4 : w4.heap[w2.heap.size]? = some (.cells #[.slice none 0 0] 33 (0, 0)) := (K.2 _ (by omega) (by show 3 ≤ (if w2.heap.size ≤ w2.heap.size then 9 else c0 w2.heap.size); rw [if_pos (Nat.le_refl _)]; decide)).trans b3
  have c4 : w4.cell? ⟨w2.heap.size, 0, none⟩ = some (.slice none 0 0) := by rw [cell_of_row _ _ _ _ _ _ b4]; rfl
  have f4 : w4.frozen? ⟨w2.heap.size, 0, none⟩ = false := by simp [World.frozen?, b4]
  have nhb : ¬ hgB x ao nv [] w2.heap.size := fun ho => Nat.lt_irrefl _ (hc_low H2 ho)
  have n4 : ¬ hgB x ao nv [] w4.heap.size := fun ho => by have := hc_low H2 ho; omega
  have g5 := G.alloc w4 (.cells #[.int .i64 c] 2)
  have H5 := H4.gr g5
  have hS : W.heap.size ≤ w2.heap.size := h.ks.st.below.size
  have ks : ∀ d, d ≠ w2.heap.size → w6.heap[d]? = (w4.alloc (.cells #[.int .i64 c] 2)).heap[d]? := fun d hd => by rw [hw6]; exact Below.heap_setCell _ _ _ _ (by simpa using hd)
  have z6 : w6.heap.size = w4.heap.size + 1 := by rw [hw6, World.size_setCell, World.size_alloc]
  have bl : Below W.heap.size W w6 := by rw [hw6]; exact H5.st.below.setCell hS _
  have H6 := H5.beside bl (by rw [z6, World.size_alloc]; exact Nat.le_refl _) fun d _ ho => ks d fun e => nhb (by rw [← e]; exact ho)
  refine ⟨c4, f4, al, 64, 0, [], 0, H6, ⟨?_, ?_, ⟨by simp, Or.inr ⟨w4.heap.size, 1, #[.int .i64 c], rfl, by omega, (ks _ (by omega)).trans (heap_alloc_new _ _), Nat.le_refl _, by unfold maxLen; omega, rfl, rfl⟩⟩, nhb, fun d hd => ?_⟩, by omega, I, trivial, Gy.RowW.nil _ _, fun d hd => by simp [Gy.blk] at hd⟩
  · rw [hw6]; exact cell_same _ (g5.cell c4)
  · rw [hw6, World.frozen?_setCell, World.frozen?_of_block (a := ⟨w2.heap.size, 0, none⟩) (g5.block w2.heap.size (by omega))]
    exact f4
  · have : d = w4.heap.size := by simp [Value.ownBlock] at hd; exact hd.symm
    subst this
    exact ⟨n4, by omega⟩
end
end Go.Proofs.YtgflkpccddfalaaGreatDoor

/- ChansHolds: what is asked behind each act; how many places are taken. -/
namespace Go.Proofs.YtgflkpccddfalaaGreatDoor
set_option maxRecDepth 100000
open Go.ChangeShapes Go.WideShapes Go.ChangeAt Go.RowKit Go.Maps Go.ChangeMaps Go.MapKept Go.Deep

def sumF (t : Nat → Nat) : Nat → Nat
  | 0 => 0
  | k + 1 => sumF t k + if 1 ≤ k then popF 64 (t k) else 0
theorem sumT_F (a : Ab) : ∀ k, sumT a k = sumF a.tk k
  | 0 => rfl
  | k + 1 => by unfold sumT sumF; rw [sumT_F a k]
section
variable {W w : World} {x : Hx} {ao lo : Option Addr} {cap lc : Nat} {nv rv : Value} {hb S R m : Nat} {c : Int} {ins li : List Int} {P : Al → Prop}
theorem ch_cyc (h : CHw W x ao cap nv hb S rv c R ins m P lo lc li w) : Calls Tryz.prog 11 #[.pointer (some ⟨x.hb, 0, none⟩)] w fun e w' => e = .returned (.pointer (some ⟨x.b.cb, 0, none⟩)) ∧ w' = w := by
  obtain ⟨al, kept, done, qs, f, ⟨cc, H⟩, _⟩ := h.is
  exact hb_cycle (hide H.hB)
theorem ch_arena (h : CHw W x ao cap nv hb S rv c R ins m P lo lc li w) : Calls Tryz.prog 13 #[.pointer (some ⟨x.b.cb, 0, none⟩)] w fun e w' => e = .returned (.pointer (some ⟨x.xl.d.ab, 0, none⟩)) ∧ w' = w := by
  obtain ⟨al, kept, done, qs, f, ⟨cc, H⟩, _⟩ := h.is
  exact b_arena (hide H.hB)
theorem ch_is (h : CHw W x ao cap nv hb S rv c R ins m P lo lc li w) {j : Nat} {a : Int} (hj : ins[j]? = some a) : Calls Tryz.prog 15 #[.pointer (some ⟨x.xl.d.ab, 0, none⟩), .int .i64 a] w fun e w' => e = .returned (.bool true) ∧ G w w' := by
  obtain ⟨al, kept, done, qs, f, H, L, hd, I, _⟩ := h.is
  have := ls_is (hide H.st) a
  rw [(I.ii a (List.mem_of_getElem? hj)).1] at this
  exact this.mono fun _ _ hh => ⟨hh.1, hh.2.2⟩
theorem ch_sum (h : CHw W x ao cap nv hb S rv c R ins m (fun al => sumT al.a 20 = 1 + ins.length) lo lc li w) : ∃ t : Nat → Nat, (∀ s, t s < 4294967296) ∧ sumF t 20 = 1 + ins.length ∧ ∀ y, G w y → ∀ s : Nat, 1 ≤ s → s < 20 → Calls Tryz.prog 14 #[.pointer (some ⟨x.xl.d.ab, 0, none⟩), .int .i64 (s : Int)] y fun e w' => e = .returned (.int .u64 (t s : Int)) ∧ G y w' := by
  obtain ⟨al, kept, done, qs, f, H, L, hd, I, p, _⟩ := h.is
  refine ⟨al.a.tk, fun s => I.good.tkb s, by rw [← sumT_F]; exact p, fun y g s s1 s2 => ?_⟩
  have := ls_taken (hide (H.gr g).st) (s : Int)
  rw [show (⟨⟨al, ls5, []⟩, 0, [], kept, done⟩ : Cy).M.al.a.tkI (s : Int) = al.a.tk s from (al.a.I_at s1 (by rw [I.n20]; exact s2)).2.1] at this
  exact this.mono fun _ _ hh => ⟨hh.1, hh.2.2⟩
theorem CHw.any (h : CHw W x ao cap nv hb S rv c R ins m P lo lc li w) : CHw W x ao cap nv hb S rv c R ins m (fun _ => True) lo lc li w := by
  obtain ⟨al, kept, done, qs, f, H, L, hd, I, p, r, n⟩ := h.is
  exact ⟨al, kept, done, qs, f, H, L, hd, I, trivial, r, n⟩
end
theorem ch_i1 {N i : Nat} (h : i < N) (h8 : N ≤ 1000) : ∃ i1 : Int, wrap64 ((i : Int) + 1) = i1 ∧ i1 = ((i + 1 : Nat) : Int) ∧ N - i1.toNat < N - ((i : Int)).toNat := by
  refine ⟨(i : Int) + 1, ?_, by omega, by omega⟩
  unfold wrap64; omega
end Go.Proofs.YtgflkpccddfalaaGreatDoor

/- A list of calls, and numbers, that came in (package gantlinelaw15). -/
namespace Go.Proofs.YtgflkpccddfalaaGreatDoor
set_option maxRecDepth 100000
open Go.ChangeShapes Go.WideShapes Go.ChangeAt Go.RowKit Go.Deep

/-- A call. -/
structure Ac where
  op : Int
  k : Int
  v : Int
def Ac.cells (s : Ac) : List Value := [.int .i64 s.op, .int .i64 s.k, .int .i64 s.v]
def Ac.obj (s : Ac) : Obj := .cells #[.int .i64 s.op, .int .i64 s.k, .int .i64 s.v] 38

theorem cells_act : Tryz.prog.cellsOf 38 = 3 := by kernel_rfl
theorem cells_int : Tryz.prog.cellsOf 3 = 1 := by kernel_rfl
theorem cells_i64 : Tryz.prog.cellsOf 2 = 1 := by kernel_rfl

theorem trod_struct3 {P : Program} {H : Type} {enc : TypeId × Value → H} {w : World} {base : Nat} {spare : Nat → Bool} {held : Bool} {t : TypeId} {f0 f1 f2 : Field} {fuel : Nat} {cs : List Value} {x : DataW H × List MemPlace} (ht : P.underlying t = some (.struct #[f0, f1, f2])) (h : DataW.trod enc P w base spare held fuel t cs = some x) :
    ∃ y0 y1 y2 n, cs.length = P.cellsOf t ∧ DataW.trod enc P w base spare held n f0.type ((cs.drop f0.offset).take (P.cellsOf f0.type)) = some y0 ∧ DataW.trod enc P w base spare held n f1.type ((cs.drop f1.offset).take (P.cellsOf f1.type)) = some y1 ∧ DataW.trod enc P w base spare held n f2.type ((cs.drop f2.offset).take (P.cellsOf f2.type)) = some y2 := by
  obtain ⟨xs, n, _, rfl, hl, hlen, hf⟩ := DataW.trod_struct ht h
  match xs, hlen with
  | [y0, y1, y2], _ => exact ⟨y0, y1, y2, n, hl, by simpa using hf 0 f0 rfl, by simpa using hf 1 f1 rfl, by simpa using hf 2 f2 rfl⟩

theorem act_of_cells {H : Type} {enc : TypeId × Value → H} {w : World} {base : Nat} {spare : Nat → Bool} {held : Bool} {fuel : Nat} {cs : List Value} {x : DataW H × List MemPlace}
    (hf : DataW.trod enc Tryz.prog w base spare held fuel 38 cs = some x) : ∃ s : Ac, cs = s.cells := by
  obtain ⟨y0, y1, y2, n, hl, t0, t1, t2⟩ := trod_struct3 Tryz.underlying38 hf
  rw [cells_act] at hl
  match cs, hl with
  | [x0, x1, x2], _ =>
    simp only [cells_int, cells_i64, List.take, List.drop] at t0 t1 t2
    obtain ⟨a0, e0, _⟩ := DataW.trod_int Tryz.underlying3 t0
    obtain ⟨a1, e1, _⟩ := DataW.trod_int Tryz.underlying3 t1
    obtain ⟨a2, e2, _⟩ := DataW.trod_int Tryz.underlying2 t2
    simp at e0 e1 e2
    subst e0 e1 e2
    exact ⟨⟨a0, a1, a2⟩, rfl⟩

/-- The three cells of a call at an address. -/
def ActAt (w : World) (b o : Nat) (s : Ac) : Prop :=
  w.cell? ⟨b, o, none⟩ = some (.int .i64 s.op) ∧ w.cell? ⟨b, o + 1, none⟩ = some (.int .i64 s.k) ∧ w.cell? ⟨b, o + 2, none⟩ = some (.int .i64 s.v)

/-- The calls l lie at ao in w. -/
def IsActs (w : World) (ao : Option Addr) (n : Nat) (l : List Ac) : Prop :=
  l.length = n ∧ n ≤ maxLen ∧ (n = 0 ∨ ∃ b off, ao = some ⟨b, off, none⟩ ∧ b < w.heap.size ∧ ∀ i s, l[i]? = some s → ActAt w b (off + i * 3) s)

theorem spot_none {w : World} {a : Addr} {v : Value} (h : w.cell? a = some v) : a = ⟨a.block, a.off, none⟩ := by
  obtain ⟨b, o, sp⟩ := a
  cases sp with
  | none => rfl
  | some x =>
    unfold World.cell? at h
    split at h <;> simp at h

theorem open_acts {H : Type} {enc : TypeId × Value → H} {w : World} {base b0 : Nat} {spare : Nat → Bool} {held : Bool} {r : Reach} {v : Value} {d : DataW H} {ps : List MemPlace}
    (hval : Value.okWide Tryz.prog w r b0 22 v) (hd : DataW.Trod enc Tryz.prog w base spare held 22 v d ps) :
    ∃ ao n c l, v = .slice ao n c ∧ IsActs w ao n l := by
  obtain ⟨ao, len, cap, rfl⟩ := okWide_slice Tryz.underlying22 hval
  obtain ⟨fuel, hf⟩ := hd
  rcases open_slice Tryz.underlying22 hf with ⟨hcs, _⟩ | ⟨a, len', cap', m, n, D, Pl, hcs, _, hl, hm, em, _, hel⟩
  · simp [Value.cells] at hcs
    obtain ⟨rfl, rfl, rfl⟩ := hcs
    exact ⟨none, 0, 0, [], rfl, rfl, Nat.zero_le _, Or.inl rfl⟩
  · simp [Value.cells] at hcs
    obtain ⟨rfl, rfl, rfl⟩ := hcs
    have hlm : len ≤ m := by rw [em]; split <;> omega
    have hs : ∀ i, i < len → ∃ s : Ac, w.cells? base (a.add (i * 3)) 3 = some s.cells := by
      intro i hi
      obtain ⟨cs', h1, h2⟩ := hel i (by omega)
      rw [cells_act] at h1
      obtain ⟨s, rfl⟩ := act_of_cells h2
      exact ⟨s, h1⟩
    have : Inhabited Ac := ⟨⟨0, 0, 0⟩⟩
    obtain ⟨S, hS⟩ := choose_lt hs
    refine ⟨some a, len, cap, (List.range len).map S, rfl, by simp, by omega, ?_⟩
    by_cases h0 : len = 0
    · exact Or.inl h0
    right
    have hc : ∀ i, i < len → ∀ j, j < 3 → w.cell? ((a.add (i * 3)).add j) = (S i).cells[j]? := fun i hi j hj => (World.cells?_some (hS i hi)).2.2 j hj
    have hz := hc 0 (by omega) 0 (by omega)
    simp [Ac.cells, Addr.add] at hz
    have ea := spot_none hz
    obtain ⟨ab, aoff, asp⟩ := a
    simp at ea
    subst ea
    refine ⟨ab, aoff, rfl, World.block_lt_of_cell? w _ hz, ?_⟩
    intro i s hi
    have hil : i < len := by
      have := (List.getElem?_eq_some_iff.1 hi).1
      simpa using this
    obtain rfl : S i = s := by simpa [hil] using hi
    have c0 := hc i hil 0 (by omega)
    have c1 := hc i hil 1 (by omega)
    have c2 := hc i hil 2 (by omega)
    rw [Addr.add_lit, Addr.add_lit] at c0 c1 c2
    exact ⟨c0, c1, c2⟩

/-- Numbers that lie at ao in w. -/
def IsR (w : World) (ao : Option Addr) (n : Nat) (l : List Int) : Prop :=
  l.length = n ∧ n ≤ maxLen ∧ (n = 0 ∨ ∃ b off, ao = some ⟨b, off, none⟩ ∧ b < w.heap.size ∧ ∀ (i : Nat) s, l[i]? = some s → w.cell? ⟨b, off + i, none⟩ = some (.int .i64 s))
theorem open_i64r {H : Type} {enc : TypeId × Value → H} {w : World} {base b0 : Nat} {spare : Nat → Bool} {held : Bool} {r : Reach} {v : Value} {d : DataW H} {ps : List MemPlace}
    (hval : Value.okWide Tryz.prog w r b0 31 v) (hd : DataW.Trod enc Tryz.prog w base spare held 31 v d ps) :
    ∃ ao n c l, v = .slice ao n c ∧ IsR w ao n l := by
  obtain ⟨ao, len, cap, rfl⟩ := okWide_slice Tryz.underlying31 hval
  obtain ⟨fuel, hf⟩ := hd
  rcases open_slice Tryz.underlying31 hf with ⟨hcs, _⟩ | ⟨a, len', cap', m, n, D, Pl, hcs, _, hl, hm, em, _, hel⟩
  · simp [Value.cells] at hcs
    obtain ⟨rfl, rfl, rfl⟩ := hcs
    exact ⟨none, 0, 0, [], rfl, rfl, Nat.zero_le _, Or.inl rfl⟩
  · simp [Value.cells] at hcs
    obtain ⟨rfl, rfl, rfl⟩ := hcs
    have hlm : len ≤ m := by rw [em]; split <;> omega
    have hs : ∀ i, i < len → ∃ s : Int, w.cells? base (a.add (i * 1)) 1 = some [.int .i64 s] := by
      intro i hi
      obtain ⟨cs', h1, h2⟩ := hel i (by omega)
      rw [cells_i64] at h1
      obtain ⟨s, rfl, _⟩ := DataW.trod_int Tryz.underlying2 h2
      exact ⟨s, h1⟩
    obtain ⟨S, hS⟩ := choose_lt hs
    refine ⟨some a, len, cap, (List.range len).map S, rfl, by simp, by omega, ?_⟩
    by_cases h0 : len = 0
    · exact Or.inl h0
    right
    have hc : ∀ i, i < len → ∀ j, j < 1 → w.cell? ((a.add (i * 1)).add j) = [Value.int .i64 (S i)][j]? := fun i hi j hj => (World.cells?_some (hS i hi)).2.2 j hj
    have hz := hc 0 (by omega) 0 (by omega)
    simp [Addr.add] at hz
    have ea := spot_none hz
    obtain ⟨ab, aoff, asp⟩ := a
    simp at ea
    subst ea
    refine ⟨ab, aoff, rfl, World.block_lt_of_cell? w _ hz, ?_⟩
    intro i s hi
    have hil : i < len := by
      have := (List.getElem?_eq_some_iff.1 hi).1
      simpa using this
    obtain rfl : S i = s := by simpa [hil] using hi
    have c0 := hc i hil 0 (by omega)
    rw [Addr.add_lit, Addr.add_lit] at c0
    simpa using c0

theorem IsActs.at_ {W w : World} {ao : Option Addr} {n : Nat} {l : List Ac} (h : IsActs W ao n l) (hb : Below W.heap.size W w) {i : Nat} (hi : i < n) : ∃ s b off, l[i]? = some s ∧ ao = some ⟨b, off, none⟩ ∧ b < w.heap.size ∧ ActAt w b (off + i * 3) s := by
  obtain ⟨h1, _, h3⟩ := h
  rcases h3 with h3 | ⟨b, off, rfl, hlt, h3⟩
  · omega
  · obtain ⟨s, hs⟩ : ∃ s, l[i]? = some s := ⟨l[i]'(by omega), List.getElem?_eq_getElem (by omega)⟩
    obtain ⟨c0, c1, c2⟩ := h3 i s hs
    have e : ∀ o, w.cell? ⟨b, o, none⟩ = W.cell? ⟨b, o, none⟩ := fun o => World.cell?_of_block (hb.block b hlt)
    exact ⟨s, b, off, hs, rfl, Nat.lt_of_lt_of_le hlt hb.size, (e _).trans c0, (e _).trans c1, (e _).trans c2⟩

end Go.Proofs.YtgflkpccddfalaaGreatDoor

/- awake() of package gantlinelaw15 answers true. -/
namespace Go.Proofs.YtgflkpccddfalaaGreatDoor
set_option maxRecDepth 100000
open Go.ChangeShapes Go.WideShapes Go.ChangeAt Go.RowKit Go.Maps Go.Deep

set_option maxHeartbeats 4000000 in
set_option maxRecDepth 100000 in
theorem awake15 (w : World) (ht : Tab w) : Calls Tryz.prog 4 #[] w fun e w' => e = .returned (.bool true) ∧ G w w' := by
  replace ht := hide ht
  go_enter Tryz.func4, Tryz.ntmps4
  go_wp2_with fail
  refine (shapes15 _).mono ?_
  rintro e w1 ⟨rfl, hw1⟩
  have CN := hide (new15 8 (by decide) (by decide) w w1 hw1 (unhide ht))
  have g1 : Hid (G w w1) := hide (by rw [hw1]; exact G.alloc _ _)
  clear hw1
  go_wp2_with fail
  refine (unhide CN).mono ?_
  rintro e w2 ⟨x, rfl, ao, cap, nv, c, S0⟩
  have S1 := hide (S0.gr (G.alloc w2 (.cells #[.slice none 0 0] 33)))
  have C1 := hide (s_make S1 1 (by decide))
  clear S0 CN
  go_wp2_with fail
  refine (unhide C1 _).mono ?_
  rintro e w3 ⟨rfl, S3, _⟩
  replace S3 := hide S3
  have C2 := hide (s_push S3 (by decide) 7 1)
  clear C1 S1
  go_wp2_with fail
  refine (unhide C2).mono ?_
  rintro e w4 ⟨rfl, S4, _⟩
  replace S4 := hide S4
  have C3 := hide (s_push_full S4 (Or.inr (by decide)) 8 1)
  clear C2 S3
  go_wp2_with fail
  refine (unhide C3).mono ?_
  rintro e w5 ⟨rfl, g5⟩
  have S5 := hide ((unhide S4).gr g5)
  have C4 := hide (s_count S5)
  clear C3 S4 g5
  go_wp2_with fail
  refine (unhide C4).mono ?_
  rintro e w6 ⟨rfl, g6⟩
  have S6 := hide ((unhide S5).gr g6)
  have C5 := hide (s_pop S6)
  clear C4 S5 g6
  go_wp2_with fail
  refine (unhide C5).mono ?_
  rintro e w7 ⟨rfl, S7, _⟩
  replace S7 := hide S7
  have C6 := hide (s_close S7)
  clear C5 S6
  go_wp2_with fail
  refine (unhide C6).mono ?_
  rintro e w8 ⟨rfl, S8, _⟩
  replace S8 := hide S8
  have C7 := hide (s_closed S8)
  clear C6 S7
  go_wp2_with fail
  refine (unhide C7).mono ?_
  rintro e w9 ⟨rfl, g9⟩
  have S9 := hide ((unhide S8).gr g9)
  have C8 := hide (s_close_shut S9)
  clear C7 S8 g9
  go_wp2_with fail
  refine (unhide C8).mono ?_
  rintro e w10 ⟨rfl, g10⟩
  have S10 := hide ((unhide S9).gr g10)
  have C9 := hide (s_room S10)
  clear C8 S9 g10
  go_wp2_with fail
  refine (unhide C9).mono ?_
  rintro e w11 ⟨rfl, g11⟩
  have S11 := hide ((unhide S10).gr g11)
  have C10 := hide (s_is S11 false)
  clear C9 S10 g11
  go_wp2_with fail
  refine (unhide C10).mono ?_
  rintro e w12 ⟨rfl, g12⟩
  have S12 := hide ((unhide S11).gr g12)
  have C11 := hide (s_is S12 true)
  clear C10 S11 g12
  go_wp2_with fail
  refine (unhide C11).mono ?_
  rintro e w13 ⟨rfl, g13⟩
  have FIN := hide (Below.trans (unhide g1) (((unhide S12).gr g13).below.mono (unhide g1).size))
  clear C11 S12 g13
  go_wp2_with fail
  go_ret
  exact ⟨rfl, unhide FIN⟩
end Go.Proofs.YtgflkpccddfalaaGreatDoor

/- ChansHolds of package gantlinelaw15 answers true. -/
namespace Go.Proofs.YtgflkpccddfalaaGreatDoor
set_option maxRecDepth 100000
open Go.ChangeShapes Go.WideShapes Go.ChangeAt Go.RowKit Go.Maps Go.Deep

theorem sumF_le (t : Nat → Nat) (s : Nat) : ∀ k, s ≤ k → sumF t s ≤ sumF t k
  | 0, h => by obtain rfl : s = 0 := by omega
               exact Nat.le_refl _
  | k + 1, h => by
    rcases Nat.lt_or_ge s (k + 1) with e | e
    · have := sumF_le t s k (by omega)
      show _ ≤ sumF t k + _
      omega
    · obtain rfl : s = k + 1 := by omega
      exact Nat.le_refl _
theorem kern (m : Nat) (h0 : m ≠ 0) (h : m < 4294967296) : ∃ m1 : Nat, bits .and .u64 (m : Int) (IntKind.u64.wrap ((m : Int) - 1)) = (m1 : Int) ∧ m1 < m ∧ popF 64 m1 + 1 = popF 64 m := by
  have e : IntKind.u64.wrap ((m : Int) - 1) = ((m - 1 : Nat) : Int) := by rw [IntKind.wrap_u64]; omega
  refine ⟨m &&& (m - 1), by rw [e]; exact u64_and_nat m (m - 1) (by omega) (by omega), ?_, popF_low 64 m (by omega) (by omega)⟩
  have := Nat.and_le_right (n := m) (m := m - 1)
  omega
set_option maxHeartbeats 4000000 in
set_option maxRecDepth 100000 in
theorem holds15 (w : World) (ht : Tab w) (R : Nat) (hR1 : 1 ≤ R) (hR4 : R ≤ 40) (ao : Option Addr) (N lc0 : Nat) (acts : List Ac) (HA : IsActs w ao N acts) (hN : N ≤ 100) (CA : Hid (Calls Tryz.prog 4 #[] w fun e w' => e = .returned (.bool true) ∧ G w w')) :
    Calls Tryz.prog 3 #[.int .i64 (R : Int), .slice ao N lc0] w fun e w' => e = .returned (.bool true) ∧ G w w' := by
  replace ht := hide ht
  have d1 : decide ((R : Int) < 1) = false := by simp; omega
  have d1' : decide (R < 1) = false := by simp; omega
  have d2 : decide ((40 : Int) < (R : Int)) = false := by simp; omega
  have d2' : decide (40 < R) = false := by simp; omega
  have d3 : decide ((100 : Int) < (N : Int)) = false := by simp; omega
  have d3' : decide (100 < N) = false := by simp; omega
  obtain ⟨al1, c, eT, I0⟩ := ci_new hR4
  have hR5 : Hid (R ≤ 59) := hide (by omega)
  replace hR1 := hide hR1
  replace hR4 := hide hR4
  replace hN := hide hN
  replace HA := hide HA
  replace eT := hide eT
  replace I0 := hide I0
  go_enter Tryz.func3, Tryz.ntmps3
  go_wp2_with fail
  refine (unhide CA).mono ?_
  rintro e w0 ⟨rfl, g0⟩
  replace g0 := hide g0
  clear CA
  go_wp2_with fail
  refine (shapes15 _).mono ?_
  rintro e w1 ⟨rfl, hw1⟩
  have CN := hide (new15 20 (by decide) (by decide) w0 w1 hw1 (Tab.later (unhide ht) (unhide g0)))
  have g1 : Hid (G w w1) := hide ((unhide g0).trans (by rw [hw1]; exact G.alloc _ _))
  clear hw1 g0 ht
  go_wp2_with fail
  refine (unhide CN).mono ?_
  rintro e w2 ⟨x, rfl, ao', cap, nv, c0, S0⟩
  have FIN : Hid (∀ y : World, Below w1.heap.size w1 y → G w y) := hide fun y b => Below.trans (unhide g1) (b.mono (unhide g1).size)
  have hS : Hid (w1.heap.size ≤ w2.heap.size) := hide S0.ks.st.below.size
  obtain ⟨w3, hw3⟩ : ∃ w3, w3 = w2.alloc (.cells #[.slice none 0 0] 33) := ⟨_, rfl⟩
  have S3 := hide ((S0.gr (show G w2 w3 by rw [hw3]; exact G.alloc _ _)).recol w2 S0)
  have CM : Hid (∀ rv, Calls Tryz.prog 7 #[.pointer (some ⟨x.hb, 0, none⟩), .int .i64 1, .int .i64 (R : Int), rv] w3 fun e w' => e = .returned (.tuple #[.int .i64 c, .int .i64 0, .int .i64 0]) ∧ HS w1 w' x ⟨(al1.a.writeA c 0 (Hd.pkV ((R : Int) + 5) 3 1)).writeA c 1 (R : Int), al1.u⟩ ls5 3 ao' cap nv (fun d => if w2.heap.size ≤ d then 9 else c0 d) ∧ Kp3 w3 (fun d => if w2.heap.size ≤ d then 9 else c0 d) w') := hide fun rv => c_make S3 1 (by decide) ⟨3, 0, 1⟩ rfl R (unhide hR5) c al1 eT rv
  have z3 : w3.heap.size = w2.heap.size + 1 := by rw [hw3, World.size_alloc]
  replace z3 := hide z3
  have ST := hide (fun w4 w6 S4 K4 hw6 => ch_start (w4 := w4) (w6 := w6) S0 hw3 S4 K4 (unhide I0) hw6)
  clear CN S0 g1 S3 eT I0
  go_upto_region 9 with fail
  rw [← hw3]
  clear hw3
  go_wp2_with fail
  refine (unhide CM _).mono ?_
  rintro e w4 ⟨rfl, S4, K4⟩
  obtain ⟨w6, hw6⟩ : ∃ w6, w6 = (w4.alloc (.cells #[.int .i64 c] 2)).setCell ⟨w2.heap.size, 0, none⟩ (.slice (some ⟨w4.heap.size, 0, none⟩) 1 1) := ⟨_, rfl⟩
  obtain ⟨c4, f4, P0⟩ := unhide ST w4 w6 S4 K4 hw6
  obtain ⟨rv, hrv⟩ : ∃ rv, rv = Value.slice (some ⟨w4.heap.size, 0, none⟩) 1 1 := ⟨_, rfl⟩
  have z4 : w2.heap.size < w4.heap.size := by have := K4.1; have := unhide z3; omega
  replace P0 := hide P0
  rw [← hrv] at P0
  replace hrv := hide hrv
  clear CM ST S4 K4
  rw [World.setCell_alloc_past _ _ _ _ z4] at hw6
  go_upto_region 13 with fail
  rw [← hw6]
  clear hw6 c4 f4 z4 d1 d1' d2 d2' d3 d3' hR5 hR1
  go_wp2_with fail
  go_loopw [10, 11] (fun c10 c11 wr => ∃ (i k : Nat) (ins : List Int) (lo : Option Addr) (lc : Nat), c10 = .slice lo k lc ∧ c11 = .int .i64 (i : Int) ∧ Hid (ins.length = k) ∧ Hid (i ≤ N) ∧ Hid (CHw w1 x ao' cap nv w2.heap.size w2.heap.size rv c R ins (i + 1) (fun _ => True) lo lc ins wr)) (fun _ c11 _ => N - (intOf c11).toNat)
  case atStart => exact ⟨0, 0, [], none, 0, rfl, rfl, hide rfl, hide (Nat.zero_le _), P0⟩
  case round =>
    obtain ⟨i, k, ins, lo, lc, rfl, rfl, hk, hiN, P⟩ := hrel
    clear P0
    by_cases hi : i = N
    · as_aux_lemma =>
        have hi' : N = i := hi.symm
        subst hi'
        clear hi
        have F := hide (unhide FIN _ (unhide P).below)
        clear P
        go_wp2_with fail
        go_ret
        exact ⟨rfl, unhide F⟩
    · have hlt' : i < N := Nat.lt_of_le_of_ne (unhide hiN) hi
      have hlt : (i : Int) < (N : Int) := Int.ofNat_lt.2 hlt'
      obtain ⟨i1, hwi1, hi1, DC⟩ := ch_i1 hlt' (by have := unhide hN; omega)
      replace hi1 := hide hi1
      replace DC := hide DC
      obtain ⟨hla, _, hr⟩ := unhide HA
      rcases hr with hr | ⟨b, off, rfl, _, hr⟩
      · omega
      obtain ⟨s, hs⟩ : ∃ s, acts[i]? = some s := ⟨acts[i]'(by omega), List.getElem?_eq_getElem _⟩
      obtain ⟨q0, _, _⟩ := hr i s hs
      have c0' := (unhide FIN wr (unhide P).below).cell q0
      obtain ⟨op, K, V⟩ := s
      simp only at c0'
      replace hlt' := hide hlt'
      clear q0 hr hla hs hi
      by_cases h0 : op = 0
      · subst h0
        by_cases hkR : k < R
        · replace hkR := hide hkR
          as_aux_lemma =>
            obtain ⟨v, vn, vc, CM⟩ := ch_make P (by have := unhide hiN; have := unhide hN; omega)
            replace CM := hide CM
            replace vn := hide vn
            replace vc := hide vc
            clear P
            go_wp2_with fail
            refine (unhide CM).mono ?_
            rintro e w5 ⟨rfl, P5⟩
            have CP := hide (ch_push (hide P5) (by rw [unhide hk]; exact unhide hkR) (unhide vc) (unhide vn))
            clear CM P5
            go_wp2_with fail
            refine (unhide CP).mono ?_
            rintro e w6 ⟨rfl, P6⟩
            have P7 := hide (P6.gr (G.alloc w6 (.cells #[.int .i64 v] 2)))
            have hx : Hid ((w6.alloc (.cells #[.int .i64 v] 2)).cell? ⟨w6.heap.size, 0, none⟩ = some (.int .i64 v)) := hide (by rw [World.cell?_alloc_new]; rfl)
            obtain ⟨k1, hk1⟩ : ∃ k1, k + 1 = k1 := ⟨_, rfl⟩
            have hkn : Hid (ins.length ≤ 1000) := hide (by have h1 := P6.len; have h2 := unhide hR4; simp at h1; omega)
            have hk' : Hid ((ins ++ [v]).length = k1) := hide (by have := unhide hk; simp; omega)
            replace hk1 := hide hk1
            clear CP P6
            go_wp2_with (at_builtin; refine Gy.wpl_app rfl (.tmp 115) (.tmp 117) rfl k k1 (unhide hk) (unhide hk1) rfl (unhide P7).rowW (Nat.le_of_lt (unhide P7).sz) w6.heap.size 1 v rfl (unhide hx) (unhide hkn) ?_; intro lo2 lc2 wz A; have P := hide ((unhide P7).app A (Nat.le_of_lt (unhide P7).sz) (unhide hS)); clear A P7 hx)
            have CC : Hid (∀ y, G wz y → Calls Tryz.prog 11 #[.pointer (some ⟨x.hb, 0, none⟩)] y fun e w' => e = .returned (.pointer (some ⟨x.b.cb, 0, none⟩)) ∧ G y w') := hide fun y g => (ch_cyc ((unhide P).gr g)).mono fun _ _ hh => ⟨hh.1, by rw [hh.2]; exact G.refl _⟩
            have CR : Hid (∀ y, G wz y → Calls Tryz.prog 13 #[.pointer (some ⟨x.b.cb, 0, none⟩)] y fun e w' => e = .returned (.pointer (some ⟨x.xl.d.ab, 0, none⟩)) ∧ G y w') := hide fun y g => (ch_arena ((unhide P).gr g)).mono fun _ _ hh => ⟨hh.1, by rw [hh.2]; exact G.refl _⟩
            have CI' : Hid (∀ y, G wz y → ∀ (j : Nat) a, (ins ++ [v])[j]? = some a → Calls Tryz.prog 15 #[.pointer (some ⟨x.xl.d.ab, 0, none⟩), .int .i64 a] y fun e w' => e = .returned (.bool true) ∧ G y w') := hide fun y g j a hj => ch_is ((unhide P).gr g) hj
            have RW' : Hid (∀ y, G wz y → Gy.IsI y (lo2) (ins ++ [v])) := hide fun y g => ((unhide P).gr g).rowW.is
            have hk5 : Hid (k1 ≤ 1000) := hide (by have h1 := (unhide P).len; have h2 := unhide hR4; have h3 := unhide hk'; omega)
            go_wp2_with fail
            go_loopw [19] (fun c19 wq => Hid (G wz wq) ∧ ∃ j : Nat, c19 = .int .i64 (j : Int) ∧ Hid (j ≤ k1)) (fun c19 _ => k1 - (intOf c19).toNat)
            case atStart => exact ⟨hide (G.refl _), 0, rfl, hide (Nat.zero_le _)⟩
            case round =>
              obtain ⟨g7, j, rfl, hj⟩ := hrel
              by_cases hjk : j = k1
              · have P7 := hide ((unhide P).gr (unhide g7))
                have e1 : decide ((j : Int) < (k1 : Int)) = false := decide_eq_false (by omega)
                have e3 : ¬ (j : Int) < (k1 : Int) := by omega
                replace hjk := hide hjk
                clear CC CR CI' RW' P
                go_wp2_with fail
                go_roundw
                case rel => exact ⟨i + 1, k1, ins ++ [v], lo2, lc2, rfl, by first | rw [hwi1, unhide hi1] | rw [unhide hi1], hk', hide (unhide hlt'), P7⟩
                case measure => first | (rw [hwi1]; exact unhide DC) | exact unhide DC
              · have hlt2 : j < k1 := Nat.lt_of_le_of_ne (unhide hj) hjk
                have hjI : (j : Int) < (k1 : Int) := Int.ofNat_lt.2 hlt2
                obtain ⟨j1, hwj1, hj1, DJ⟩ := ch_i1 hlt2 (unhide hk5)
                replace hj1 := hide hj1
                replace DJ := hide DJ
                have hjK1 : Hid (j + 1 ≤ k1) := hide hlt2
                obtain ⟨a, g, off2, ha, hlo, ca⟩ := (unhide RW' _ (unhide g7)).at_ (i := j) (by rw [unhide hk']; exact hlt2)
                subst hlo
                have KD : Hid (G wr wr.drew ∧ wr.drew.cell? ⟨g, off2 + j, none⟩ = some (.int .i64 a)) := hide ⟨(G.refl wr).drew, (G.refl wr).drew.cell ca⟩
                have KC : Hid (∀ y y' : World, (G wr y ∧ y.cell? ⟨g, off2 + j, none⟩ = some (.int .i64 a)) → G y y' → (G wr y' ∧ y'.cell? ⟨g, off2 + j, none⟩ = some (.int .i64 a))) := hide fun y y' hy gy => ⟨hy.1.trans gy, gy.cell hy.2⟩
                have C1 : Hid (∀ y, (G wr y ∧ y.cell? ⟨g, off2 + j, none⟩ = some (.int .i64 a)) → Calls Tryz.prog 11 #[.pointer (some ⟨x.hb, 0, none⟩)] y fun e w' => e = .returned (.pointer (some ⟨x.b.cb, 0, none⟩)) ∧ G y w') := hide fun y hy => unhide CC y ((unhide g7).trans hy.1)
                have C2 : Hid (∀ y, (G wr y ∧ y.cell? ⟨g, off2 + j, none⟩ = some (.int .i64 a)) → Calls Tryz.prog 13 #[.pointer (some ⟨x.b.cb, 0, none⟩)] y fun e w' => e = .returned (.pointer (some ⟨x.xl.d.ab, 0, none⟩)) ∧ G y w') := hide fun y hy => unhide CR y ((unhide g7).trans hy.1)
                have C3 : Hid (∀ y, (G wr y ∧ y.cell? ⟨g, off2 + j, none⟩ = some (.int .i64 a)) → Calls Tryz.prog 15 #[.pointer (some ⟨x.xl.d.ab, 0, none⟩), .int .i64 a] y fun e w' => e = .returned (.bool true) ∧ G y w') := hide fun y hy => unhide CI' y ((unhide g7).trans hy.1) j a ha
                clear CC CR CI' RW' ha hlt2 hjk
                go_wp2_with fail
                go_region_held3 (fun y => G wr y ∧ y.cell? ⟨g, off2 + j, none⟩ = some (.int .i64 a))
                  (first | assumption | exact unhide KD | exact unhide KC _ _ (by assumption) (by assumption))
                  ((first
                    | (go_at_call 11; refine (unhide C1 _ ?_).mono ?_; assumption; rintro e x4 ⟨rfl, hg4⟩)
                    | (go_at_call 13; refine (unhide C2 _ ?_).mono ?_; assumption; rintro e x5 ⟨rfl, hg5⟩)
                    | (go_at_call 15; refine (unhide C3 _ ?_).mono ?_; assumption; rintro e x6 ⟨rfl, hg6⟩)))
                all_goals
                  go_wp2_with fail
                  go_roundw
                  case rel => exact ⟨hide ((unhide g7).trans (by assumption : G wr _ ∧ _).1), j + 1, by first | rw [hwj1, unhide hj1] | rw [unhide hj1], hjK1⟩
                  case measure => first | (rw [hwj1]; exact unhide DJ) | exact unhide DJ
        · replace hkR := hide hkR
          as_aux_lemma =>
            obtain ⟨v, vn, vc, CM⟩ := ch_make P (by have := unhide hiN; have := unhide hN; omega)
            replace CM := hide CM
            replace vn := hide vn
            replace vc := hide vc
            clear P
            go_wp2_with fail
            refine (unhide CM).mono ?_
            rintro e w5 ⟨rfl, P5⟩
            have CP := hide (ch_push_full (hide P5) (by rw [unhide hk]; exact Nat.not_lt.1 (unhide hkR)) v)
            clear CM P5
            go_wp2_with fail
            refine (unhide CP).mono ?_
            rintro e wz ⟨rfl, P6⟩
            have P := hide P6.any
            have hk' := hide (unhide hk)
            clear CP P6
            have CC : Hid (∀ y, G wz y → Calls Tryz.prog 11 #[.pointer (some ⟨x.hb, 0, none⟩)] y fun e w' => e = .returned (.pointer (some ⟨x.b.cb, 0, none⟩)) ∧ G y w') := hide fun y g => (ch_cyc ((unhide P).gr g)).mono fun _ _ hh => ⟨hh.1, by rw [hh.2]; exact G.refl _⟩
            have CR : Hid (∀ y, G wz y → Calls Tryz.prog 13 #[.pointer (some ⟨x.b.cb, 0, none⟩)] y fun e w' => e = .returned (.pointer (some ⟨x.xl.d.ab, 0, none⟩)) ∧ G y w') := hide fun y g => (ch_arena ((unhide P).gr g)).mono fun _ _ hh => ⟨hh.1, by rw [hh.2]; exact G.refl _⟩
            have CI' : Hid (∀ y, G wz y → ∀ (j : Nat) a, (ins)[j]? = some a → Calls Tryz.prog 15 #[.pointer (some ⟨x.xl.d.ab, 0, none⟩), .int .i64 a] y fun e w' => e = .returned (.bool true) ∧ G y w') := hide fun y g j a hj => ch_is ((unhide P).gr g) hj
            have RW' : Hid (∀ y, G wz y → Gy.IsI y (lo) (ins)) := hide fun y g => ((unhide P).gr g).rowW.is
            have hk5 : Hid (k ≤ 1000) := hide (by have h1 := (unhide P).len; have h2 := unhide hR4; have h3 := unhide hk'; omega)
            go_wp2_with fail
            go_loopw [19] (fun c19 wq => Hid (G wz wq) ∧ ∃ j : Nat, c19 = .int .i64 (j : Int) ∧ Hid (j ≤ k)) (fun c19 _ => k - (intOf c19).toNat)
            case atStart => exact ⟨hide (G.refl _), 0, rfl, hide (Nat.zero_le _)⟩
            case round =>
              obtain ⟨g7, j, rfl, hj⟩ := hrel
              by_cases hjk : j = k
              · have P7 := hide ((unhide P).gr (unhide g7))
                have e1 : decide ((j : Int) < (k : Int)) = false := decide_eq_false (by omega)
                have e3 : ¬ (j : Int) < (k : Int) := by omega
                replace hjk := hide hjk
                clear CC CR CI' RW' P
                go_wp2_with fail
                go_roundw
                case rel => exact ⟨i + 1, k, ins, lo, lc, rfl, by first | rw [hwi1, unhide hi1] | rw [unhide hi1], hk', hide (unhide hlt'), P7⟩
                case measure => first | (rw [hwi1]; exact unhide DC) | exact unhide DC
              · have hlt2 : j < k := Nat.lt_of_le_of_ne (unhide hj) hjk
                have hjI : (j : Int) < (k : Int) := Int.ofNat_lt.2 hlt2
                obtain ⟨j1, hwj1, hj1, DJ⟩ := ch_i1 hlt2 (unhide hk5)
                replace hj1 := hide hj1
                replace DJ := hide DJ
                have hjK1 : Hid (j + 1 ≤ k) := hide hlt2
                obtain ⟨a, g, off2, ha, hlo, ca⟩ := (unhide RW' _ (unhide g7)).at_ (i := j) (by rw [unhide hk']; exact hlt2)
                subst hlo
                have KD : Hid (G wr wr.drew ∧ wr.drew.cell? ⟨g, off2 + j, none⟩ = some (.int .i64 a)) := hide ⟨(G.refl wr).drew, (G.refl wr).drew.cell ca⟩
                have KC : Hid (∀ y y' : World, (G wr y ∧ y.cell? ⟨g, off2 + j, none⟩ = some (.int .i64 a)) → G y y' → (G wr y' ∧ y'.cell? ⟨g, off2 + j, none⟩ = some (.int .i64 a))) := hide fun y y' hy gy => ⟨hy.1.trans gy, gy.cell hy.2⟩
                have C1 : Hid (∀ y, (G wr y ∧ y.cell? ⟨g, off2 + j, none⟩ = some (.int .i64 a)) → Calls Tryz.prog 11 #[.pointer (some ⟨x.hb, 0, none⟩)] y fun e w' => e = .returned (.pointer (some ⟨x.b.cb, 0, none⟩)) ∧ G y w') := hide fun y hy => unhide CC y ((unhide g7).trans hy.1)
                have C2 : Hid (∀ y, (G wr y ∧ y.cell? ⟨g, off2 + j, none⟩ = some (.int .i64 a)) → Calls Tryz.prog 13 #[.pointer (some ⟨x.b.cb, 0, none⟩)] y fun e w' => e = .returned (.pointer (some ⟨x.xl.d.ab, 0, none⟩)) ∧ G y w') := hide fun y hy => unhide CR y ((unhide g7).trans hy.1)
                have C3 : Hid (∀ y, (G wr y ∧ y.cell? ⟨g, off2 + j, none⟩ = some (.int .i64 a)) → Calls Tryz.prog 15 #[.pointer (some ⟨x.xl.d.ab, 0, none⟩), .int .i64 a] y fun e w' => e = .returned (.bool true) ∧ G y w') := hide fun y hy => unhide CI' y ((unhide g7).trans hy.1) j a ha
                clear CC CR CI' RW' ha hlt2 hjk
                go_wp2_with fail
                go_region_held3 (fun y => G wr y ∧ y.cell? ⟨g, off2 + j, none⟩ = some (.int .i64 a))
                  (first | assumption | exact unhide KD | exact unhide KC _ _ (by assumption) (by assumption))
                  ((first
                    | (go_at_call 11; refine (unhide C1 _ ?_).mono ?_; assumption; rintro e x4 ⟨rfl, hg4⟩)
                    | (go_at_call 13; refine (unhide C2 _ ?_).mono ?_; assumption; rintro e x5 ⟨rfl, hg5⟩)
                    | (go_at_call 15; refine (unhide C3 _ ?_).mono ?_; assumption; rintro e x6 ⟨rfl, hg6⟩)))
                all_goals
                  go_wp2_with fail
                  go_roundw
                  case rel => exact ⟨hide ((unhide g7).trans (by assumption : G wr _ ∧ _).1), j + 1, by first | rw [hwj1, unhide hj1] | rw [unhide hj1], hjK1⟩
                  case measure => first | (rw [hwj1]; exact unhide DJ) | exact unhide DJ
      by_cases h1 : op = 1
      · subst h1
        cases ins with
        | nil =>
          as_aux_lemma =>
            have hk0 : k = 0 := (unhide hk).symm
            subst hk0
            have CP := hide (ch_pop_empty P)
            clear P
            go_wp2_with fail
            refine (unhide CP).mono ?_
            rintro e wz ⟨rfl, P6⟩
            have P := hide P6.more
            have hk' : Hid (([] : List Int).length = 0) := hide rfl
            clear CP P6
            have CC : Hid (∀ y, G wz y → Calls Tryz.prog 11 #[.pointer (some ⟨x.hb, 0, none⟩)] y fun e w' => e = .returned (.pointer (some ⟨x.b.cb, 0, none⟩)) ∧ G y w') := hide fun y g => (ch_cyc ((unhide P).gr g)).mono fun _ _ hh => ⟨hh.1, by rw [hh.2]; exact G.refl _⟩
            have CR : Hid (∀ y, G wz y → Calls Tryz.prog 13 #[.pointer (some ⟨x.b.cb, 0, none⟩)] y fun e w' => e = .returned (.pointer (some ⟨x.xl.d.ab, 0, none⟩)) ∧ G y w') := hide fun y g => (ch_arena ((unhide P).gr g)).mono fun _ _ hh => ⟨hh.1, by rw [hh.2]; exact G.refl _⟩
            have CI' : Hid (∀ y, G wz y → ∀ (j : Nat) a, (([] : List Int))[j]? = some a → Calls Tryz.prog 15 #[.pointer (some ⟨x.xl.d.ab, 0, none⟩), .int .i64 a] y fun e w' => e = .returned (.bool true) ∧ G y w') := hide fun y g j a hj => ch_is ((unhide P).gr g) hj
            have RW' : Hid (∀ y, G wz y → Gy.IsI y (lo) (([] : List Int))) := hide fun y g => ((unhide P).gr g).rowW.is
            have hk5 : Hid (0 ≤ 1000) := hide (by have h1 := (unhide P).len; have h2 := unhide hR4; have h3 := unhide hk'; omega)
            go_wp2_with fail
            go_loopw [19] (fun c19 wq => Hid (G wz wq) ∧ ∃ j : Nat, c19 = .int .i64 (j : Int) ∧ Hid (j ≤ 0)) (fun c19 _ => 0 - (intOf c19).toNat)
            case atStart => exact ⟨hide (G.refl _), 0, rfl, hide (Nat.zero_le _)⟩
            case round =>
              obtain ⟨g7, j, rfl, hj⟩ := hrel
              by_cases hjk : j = 0
              · have P7 := hide ((unhide P).gr (unhide g7))
                have e1 : decide ((j : Int) < (0 : Int)) = false := decide_eq_false (by omega)
                have e3 : ¬ (j : Int) < (0 : Int) := by omega
                replace hjk := hide hjk
                clear CC CR CI' RW' P
                go_wp2_with fail
                go_roundw
                case rel => exact ⟨i + 1, 0, ([] : List Int), lo, lc, rfl, by first | rw [hwi1, unhide hi1] | rw [unhide hi1], hk', hide (unhide hlt'), P7⟩
                case measure => first | (rw [hwi1]; exact unhide DC) | exact unhide DC
              · exact absurd (Nat.lt_of_le_of_ne (unhide hj) hjk) (by omega)
        | cons y t =>
          as_aux_lemma =>
            obtain ⟨m, hm⟩ : ∃ m, t.length = m := ⟨_, rfl⟩
            have hkm : k - 1 = m := by have := unhide hk; simp at this; omega
            have hkp : (0 : Int) < (k : Int) := by have := unhide hk; simp at this; omega
            have hkp' : decide ((0 : Int) < (k : Int)) = true := by simp; omega
            have hk1 : (1 : Int) ≤ (k : Int) := by omega
            have CP := hide (ch_pop P)
            clear P
            go_wp2_with fail
            refine (unhide CP).mono ?_
            rintro e wz ⟨rfl, P6⟩
            obtain ⟨g0, o0, rfl, ca0, hcap, P7⟩ := P6.cut
            have hyy : (y != y) = false := by simp
            have hk' : Hid (t.length = m) := hide hm
            clear hm CP P6
            by_cases hc1 : lc = 1
            · subst hc1
              rw [if_pos rfl] at P7
              have P := hide P7.more
              clear P7
              have CC : Hid (∀ y, G wz y → Calls Tryz.prog 11 #[.pointer (some ⟨x.hb, 0, none⟩)] y fun e w' => e = .returned (.pointer (some ⟨x.b.cb, 0, none⟩)) ∧ G y w') := hide fun y g => (ch_cyc ((unhide P).gr g)).mono fun _ _ hh => ⟨hh.1, by rw [hh.2]; exact G.refl _⟩
              have CR : Hid (∀ y, G wz y → Calls Tryz.prog 13 #[.pointer (some ⟨x.b.cb, 0, none⟩)] y fun e w' => e = .returned (.pointer (some ⟨x.xl.d.ab, 0, none⟩)) ∧ G y w') := hide fun y g => (ch_arena ((unhide P).gr g)).mono fun _ _ hh => ⟨hh.1, by rw [hh.2]; exact G.refl _⟩
              have CI' : Hid (∀ y, G wz y → ∀ (j : Nat) a, (t)[j]? = some a → Calls Tryz.prog 15 #[.pointer (some ⟨x.xl.d.ab, 0, none⟩), .int .i64 a] y fun e w' => e = .returned (.bool true) ∧ G y w') := hide fun y g j a hj => ch_is ((unhide P).gr g) hj
              have RW' : Hid (∀ y, G wz y → Gy.IsI y (some ⟨g0, o0, none⟩) (t)) := hide fun y g => ((unhide P).gr g).rowW.is
              have hk5 : Hid (m ≤ 1000) := hide (by have h1 := (unhide P).len; have h2 := unhide hR4; have h3 := unhide hk'; omega)
              go_wp2_with fail
              go_loopw [19] (fun c19 wq => Hid (G wz wq) ∧ ∃ j : Nat, c19 = .int .i64 (j : Int) ∧ Hid (j ≤ m)) (fun c19 _ => m - (intOf c19).toNat)
              case atStart => exact ⟨hide (G.refl _), 0, rfl, hide (Nat.zero_le _)⟩
              case round =>
                obtain ⟨g7, j, rfl, hj⟩ := hrel
                by_cases hjk : j = m
                · have P7 := hide ((unhide P).gr (unhide g7))
                  have e1 : decide ((j : Int) < (m : Int)) = false := decide_eq_false (by omega)
                  have e3 : ¬ (j : Int) < (m : Int) := by omega
                  replace hjk := hide hjk
                  clear CC CR CI' RW' P
                  go_wp2_with fail
                  go_roundw
                  case rel => exact ⟨i + 1, m, t, some ⟨g0, o0, none⟩, 1 - 1, rfl, by first | rw [hwi1, unhide hi1] | rw [unhide hi1], hk', hide (unhide hlt'), P7⟩
                  case measure => first | (rw [hwi1]; exact unhide DC) | exact unhide DC
                · have hlt2 : j < m := Nat.lt_of_le_of_ne (unhide hj) hjk
                  have hjI : (j : Int) < (m : Int) := Int.ofNat_lt.2 hlt2
                  obtain ⟨j1, hwj1, hj1, DJ⟩ := ch_i1 hlt2 (unhide hk5)
                  replace hj1 := hide hj1
                  replace DJ := hide DJ
                  have hjK1 : Hid (j + 1 ≤ m) := hide hlt2
                  obtain ⟨a, g, off2, ha, hlo, ca⟩ := (unhide RW' _ (unhide g7)).at_ (i := j) (by rw [unhide hk']; exact hlt2)
                  obtain ⟨rfl, rfl⟩ : g = g0 ∧ off2 = o0 := by simp at hlo; omega
                  have KD : Hid (G wr wr.drew ∧ wr.drew.cell? ⟨g, off2 + j, none⟩ = some (.int .i64 a)) := hide ⟨(G.refl wr).drew, (G.refl wr).drew.cell ca⟩
                  have KC : Hid (∀ y y' : World, (G wr y ∧ y.cell? ⟨g, off2 + j, none⟩ = some (.int .i64 a)) → G y y' → (G wr y' ∧ y'.cell? ⟨g, off2 + j, none⟩ = some (.int .i64 a))) := hide fun y y' hy gy => ⟨hy.1.trans gy, gy.cell hy.2⟩
                  have C1 : Hid (∀ y, (G wr y ∧ y.cell? ⟨g, off2 + j, none⟩ = some (.int .i64 a)) → Calls Tryz.prog 11 #[.pointer (some ⟨x.hb, 0, none⟩)] y fun e w' => e = .returned (.pointer (some ⟨x.b.cb, 0, none⟩)) ∧ G y w') := hide fun y hy => unhide CC y ((unhide g7).trans hy.1)
                  have C2 : Hid (∀ y, (G wr y ∧ y.cell? ⟨g, off2 + j, none⟩ = some (.int .i64 a)) → Calls Tryz.prog 13 #[.pointer (some ⟨x.b.cb, 0, none⟩)] y fun e w' => e = .returned (.pointer (some ⟨x.xl.d.ab, 0, none⟩)) ∧ G y w') := hide fun y hy => unhide CR y ((unhide g7).trans hy.1)
                  have C3 : Hid (∀ y, (G wr y ∧ y.cell? ⟨g, off2 + j, none⟩ = some (.int .i64 a)) → Calls Tryz.prog 15 #[.pointer (some ⟨x.xl.d.ab, 0, none⟩), .int .i64 a] y fun e w' => e = .returned (.bool true) ∧ G y w') := hide fun y hy => unhide CI' y ((unhide g7).trans hy.1) j a ha
                  clear CC CR CI' RW' ha hlt2 hjk
                  go_wp2_with fail
                  go_region_held3 (fun y => G wr y ∧ y.cell? ⟨g, off2 + j, none⟩ = some (.int .i64 a))
                    (first | assumption | exact unhide KD | exact unhide KC _ _ (by assumption) (by assumption))
                    ((first
                      | (go_at_call 11; refine (unhide C1 _ ?_).mono ?_; assumption; rintro e x4 ⟨rfl, hg4⟩)
                      | (go_at_call 13; refine (unhide C2 _ ?_).mono ?_; assumption; rintro e x5 ⟨rfl, hg5⟩)
                      | (go_at_call 15; refine (unhide C3 _ ?_).mono ?_; assumption; rintro e x6 ⟨rfl, hg6⟩)))
                  all_goals
                    go_wp2_with fail
                    go_roundw
                    case rel => exact ⟨hide ((unhide g7).trans (by assumption : G wr _ ∧ _).1), j + 1, by first | rw [hwj1, unhide hj1] | rw [unhide hj1], hjK1⟩
                    case measure => first | (rw [hwj1]; exact unhide DJ) | exact unhide DJ
            · rw [if_neg hc1] at P7
              have P := hide P7.more
              clear P7
              have CC : Hid (∀ y, G wz y → Calls Tryz.prog 11 #[.pointer (some ⟨x.hb, 0, none⟩)] y fun e w' => e = .returned (.pointer (some ⟨x.b.cb, 0, none⟩)) ∧ G y w') := hide fun y g => (ch_cyc ((unhide P).gr g)).mono fun _ _ hh => ⟨hh.1, by rw [hh.2]; exact G.refl _⟩
              have CR : Hid (∀ y, G wz y → Calls Tryz.prog 13 #[.pointer (some ⟨x.b.cb, 0, none⟩)] y fun e w' => e = .returned (.pointer (some ⟨x.xl.d.ab, 0, none⟩)) ∧ G y w') := hide fun y g => (ch_arena ((unhide P).gr g)).mono fun _ _ hh => ⟨hh.1, by rw [hh.2]; exact G.refl _⟩
              have CI' : Hid (∀ y, G wz y → ∀ (j : Nat) a, (t)[j]? = some a → Calls Tryz.prog 15 #[.pointer (some ⟨x.xl.d.ab, 0, none⟩), .int .i64 a] y fun e w' => e = .returned (.bool true) ∧ G y w') := hide fun y g j a hj => ch_is ((unhide P).gr g) hj
              have RW' : Hid (∀ y, G wz y → Gy.IsI y (some ⟨g0, o0 + 1, none⟩) (t)) := hide fun y g => ((unhide P).gr g).rowW.is
              have hk5 : Hid (m ≤ 1000) := hide (by have h1 := (unhide P).len; have h2 := unhide hR4; have h3 := unhide hk'; omega)
              go_wp2_with fail
              go_loopw [19] (fun c19 wq => Hid (G wz wq) ∧ ∃ j : Nat, c19 = .int .i64 (j : Int) ∧ Hid (j ≤ m)) (fun c19 _ => m - (intOf c19).toNat)
              case atStart => exact ⟨hide (G.refl _), 0, rfl, hide (Nat.zero_le _)⟩
              case round =>
                obtain ⟨g7, j, rfl, hj⟩ := hrel
                by_cases hjk : j = m
                · have P7 := hide ((unhide P).gr (unhide g7))
                  have e1 : decide ((j : Int) < (m : Int)) = false := decide_eq_false (by omega)
                  have e3 : ¬ (j : Int) < (m : Int) := by omega
                  replace hjk := hide hjk
                  clear CC CR CI' RW' P
                  go_wp2_with fail
                  go_roundw
                  case rel => exact ⟨i + 1, m, t, some ⟨g0, o0 + 1, none⟩, lc - 1, rfl, by first | rw [hwi1, unhide hi1] | rw [unhide hi1], hk', hide (unhide hlt'), P7⟩
                  case measure => first | (rw [hwi1]; exact unhide DC) | exact unhide DC
                · have hlt2 : j < m := Nat.lt_of_le_of_ne (unhide hj) hjk
                  have hjI : (j : Int) < (m : Int) := Int.ofNat_lt.2 hlt2
                  obtain ⟨j1, hwj1, hj1, DJ⟩ := ch_i1 hlt2 (unhide hk5)
                  replace hj1 := hide hj1
                  replace DJ := hide DJ
                  have hjK1 : Hid (j + 1 ≤ m) := hide hlt2
                  obtain ⟨a, g, off2, ha, hlo, ca⟩ := (unhide RW' _ (unhide g7)).at_ (i := j) (by rw [unhide hk']; exact hlt2)
                  obtain ⟨rfl, rfl⟩ : g = g0 ∧ off2 = o0 + 1 := by simp at hlo; omega
                  have KD : Hid (G wr wr.drew ∧ wr.drew.cell? ⟨g, o0 + 1 + j, none⟩ = some (.int .i64 a)) := hide ⟨(G.refl wr).drew, (G.refl wr).drew.cell ca⟩
                  have KC : Hid (∀ y y' : World, (G wr y ∧ y.cell? ⟨g, o0 + 1 + j, none⟩ = some (.int .i64 a)) → G y y' → (G wr y' ∧ y'.cell? ⟨g, o0 + 1 + j, none⟩ = some (.int .i64 a))) := hide fun y y' hy gy => ⟨hy.1.trans gy, gy.cell hy.2⟩
                  have C1 : Hid (∀ y, (G wr y ∧ y.cell? ⟨g, o0 + 1 + j, none⟩ = some (.int .i64 a)) → Calls Tryz.prog 11 #[.pointer (some ⟨x.hb, 0, none⟩)] y fun e w' => e = .returned (.pointer (some ⟨x.b.cb, 0, none⟩)) ∧ G y w') := hide fun y hy => unhide CC y ((unhide g7).trans hy.1)
                  have C2 : Hid (∀ y, (G wr y ∧ y.cell? ⟨g, o0 + 1 + j, none⟩ = some (.int .i64 a)) → Calls Tryz.prog 13 #[.pointer (some ⟨x.b.cb, 0, none⟩)] y fun e w' => e = .returned (.pointer (some ⟨x.xl.d.ab, 0, none⟩)) ∧ G y w') := hide fun y hy => unhide CR y ((unhide g7).trans hy.1)
                  have C3 : Hid (∀ y, (G wr y ∧ y.cell? ⟨g, o0 + 1 + j, none⟩ = some (.int .i64 a)) → Calls Tryz.prog 15 #[.pointer (some ⟨x.xl.d.ab, 0, none⟩), .int .i64 a] y fun e w' => e = .returned (.bool true) ∧ G y w') := hide fun y hy => unhide CI' y ((unhide g7).trans hy.1) j a ha
                  clear CC CR CI' RW' ha hlt2 hjk
                  go_wp2_with fail
                  go_region_held3 (fun y => G wr y ∧ y.cell? ⟨g, o0 + 1 + j, none⟩ = some (.int .i64 a))
                    (first | assumption | exact unhide KD | exact unhide KC _ _ (by assumption) (by assumption))
                    ((first
                      | (go_at_call 11; refine (unhide C1 _ ?_).mono ?_; assumption; rintro e x4 ⟨rfl, hg4⟩)
                      | (go_at_call 13; refine (unhide C2 _ ?_).mono ?_; assumption; rintro e x5 ⟨rfl, hg5⟩)
                      | (go_at_call 15; refine (unhide C3 _ ?_).mono ?_; assumption; rintro e x6 ⟨rfl, hg6⟩)))
                  all_goals
                    go_wp2_with fail
                    go_roundw
                    case rel => exact ⟨hide ((unhide g7).trans (by assumption : G wr _ ∧ _).1), j + 1, by first | rw [hwj1, unhide hj1] | rw [unhide hj1], hjK1⟩
                    case measure => first | (rw [hwj1]; exact unhide DJ) | exact unhide DJ
      · have e0 : (op == 0) = false := by simpa using h0
        have e1 : (op == 1) = false := by simpa using h1
        clear h0 h1
        as_aux_lemma =>
          have CC0 := hide (ch_cyc (unhide P))
          have CW := hide (ch_whole P (by have := unhide hiN; have := unhide hN; omega))
          clear P
          go_wp2_with fail
          refine (unhide CC0).mono ?_
          rintro e w5 ⟨rfl, hw5⟩
          rw [hw5]
          clear hw5 w5 CC0
          go_wp2_with fail
          refine (unhide CW).mono ?_
          rintro e wz ⟨rfl, P6⟩
          obtain ⟨t, ht32, htS, CT⟩ := ch_sum P6
          have P := hide P6.any
          have hk' := hide (unhide hk)
          rw [unhide hk] at htS
          have CCy : Hid (∀ y, G wz y → Calls Tryz.prog 11 #[.pointer (some ⟨x.hb, 0, none⟩)] y fun e w' => e = .returned (.pointer (some ⟨x.b.cb, 0, none⟩)) ∧ G y w') := hide fun y g => (ch_cyc ((unhide P).gr g)).mono fun _ _ hh => ⟨hh.1, by rw [hh.2]; exact G.refl _⟩
          have CAr : Hid (∀ y, G wz y → Calls Tryz.prog 13 #[.pointer (some ⟨x.b.cb, 0, none⟩)] y fun e w' => e = .returned (.pointer (some ⟨x.xl.d.ab, 0, none⟩)) ∧ G y w') := hide fun y g => (ch_arena ((unhide P).gr g)).mono fun _ _ hh => ⟨hh.1, by rw [hh.2]; exact G.refl _⟩
          replace CT := hide CT
          replace ht32 := hide ht32
          replace htS := hide htS
          have hkb : Hid (k ≤ 100) := hide (by have h1 := (unhide P).len; have h2 := unhide hR4; have h3 := unhide hk; omega)
          have htL : Hid (∀ s, s ≤ 20 → sumF t s ≤ 200) := hide (fun s hs => by have h1 := sumF_le t s 20 hs; have h2 := unhide htS; have h3 := unhide hkb; omega)
          clear CW P6
          go_wp2_with fail
          go_loopw [16, 17] (fun c16 c17 wq => Hid (G wz wq) ∧ ∃ s : Nat, c16 = .int .i64 (sumF t s : Int) ∧ c17 = .int .i64 (s : Int) ∧ Hid (1 ≤ s ∧ s ≤ 20)) (fun _ c17 _ => 20 - (intOf c17).toNat)
          case atStart => exact ⟨hide (G.refl _), 1, rfl, rfl, hide (by omega)⟩
          case round =>
            obtain ⟨g7, s, rfl, rfl, hs⟩ := hrel
            by_cases hs20 : s = 20
            · subst hs20
              have P8 := hide ((unhide P).gr (unhide g7))
              obtain ⟨nT, hnT⟩ : ∃ n : Nat, sumF t 20 = n := ⟨_, rfl⟩
              have hnn : ((nT : Int) != wrap64 (1 + (k : Int))) = false := by
                rw [← hnT, unhide htS]
                have := unhide hkb
                have : wrap64 (1 + (k : Int)) = ((1 + k : Nat) : Int) := by unfold wrap64; omega
                rw [this]
                simp
              obtain ⟨wy, hwy⟩ : ∃ q, q = wr := ⟨_, rfl⟩
              rw [← hwy] at P8 ⊢
              rw [hnT, show ((20 : Nat) : Int) = 20 from rfl]
              replace hnT := hide hnT
              have P := P8
              clear P8 g7 CCy CAr CT hwy
              have CC : Hid (∀ y, G wy y → Calls Tryz.prog 11 #[.pointer (some ⟨x.hb, 0, none⟩)] y fun e w' => e = .returned (.pointer (some ⟨x.b.cb, 0, none⟩)) ∧ G y w') := hide fun y g => (ch_cyc ((unhide P).gr g)).mono fun _ _ hh => ⟨hh.1, by rw [hh.2]; exact G.refl _⟩
              have CR : Hid (∀ y, G wy y → Calls Tryz.prog 13 #[.pointer (some ⟨x.b.cb, 0, none⟩)] y fun e w' => e = .returned (.pointer (some ⟨x.xl.d.ab, 0, none⟩)) ∧ G y w') := hide fun y g => (ch_arena ((unhide P).gr g)).mono fun _ _ hh => ⟨hh.1, by rw [hh.2]; exact G.refl _⟩
              have CI' : Hid (∀ y, G wy y → ∀ (j : Nat) a, (ins)[j]? = some a → Calls Tryz.prog 15 #[.pointer (some ⟨x.xl.d.ab, 0, none⟩), .int .i64 a] y fun e w' => e = .returned (.bool true) ∧ G y w') := hide fun y g j a hj => ch_is ((unhide P).gr g) hj
              have RW' : Hid (∀ y, G wy y → Gy.IsI y (lo) (ins)) := hide fun y g => ((unhide P).gr g).rowW.is
              have hk5 : Hid (k ≤ 1000) := hide (by have h1 := (unhide P).len; have h2 := unhide hR4; have h3 := unhide hk'; omega)
              go_wp2_with fail
              go_loopw [19] (fun c19 wq => Hid (G wy wq) ∧ ∃ j : Nat, c19 = .int .i64 (j : Int) ∧ Hid (j ≤ k)) (fun c19 _ => k - (intOf c19).toNat)
              case atStart => exact ⟨hide (G.refl _), 0, rfl, hide (Nat.zero_le _)⟩
              case round =>
                obtain ⟨g7, j, rfl, hj⟩ := hrel
                by_cases hjk : j = k
                · have P7 := hide ((unhide P).gr (unhide g7))
                  have e1 : decide ((j : Int) < (k : Int)) = false := decide_eq_false (by omega)
                  have e3 : ¬ (j : Int) < (k : Int) := by omega
                  replace hjk := hide hjk
                  clear CC CR CI' RW' P
                  go_wp2_with fail
                  go_roundw
                  case rel => exact ⟨i + 1, k, ins, lo, lc, rfl, by first | rw [hwi1, unhide hi1] | rw [unhide hi1], hk', hide (unhide hlt'), P7⟩
                  case measure => first | (rw [hwi1]; exact unhide DC) | exact unhide DC
                · have hlt2 : j < k := Nat.lt_of_le_of_ne (unhide hj) hjk
                  have hjI : (j : Int) < (k : Int) := Int.ofNat_lt.2 hlt2
                  obtain ⟨j1, hwj1, hj1, DJ⟩ := ch_i1 hlt2 (unhide hk5)
                  replace hj1 := hide hj1
                  replace DJ := hide DJ
                  have hjK1 : Hid (j + 1 ≤ k) := hide hlt2
                  obtain ⟨a, g, off2, ha, hlo, ca⟩ := (unhide RW' _ (unhide g7)).at_ (i := j) (by rw [unhide hk']; exact hlt2)
                  subst hlo
                  have KD : Hid (G wr wr.drew ∧ wr.drew.cell? ⟨g, off2 + j, none⟩ = some (.int .i64 a)) := hide ⟨(G.refl wr).drew, (G.refl wr).drew.cell ca⟩
                  have KC : Hid (∀ y y' : World, (G wr y ∧ y.cell? ⟨g, off2 + j, none⟩ = some (.int .i64 a)) → G y y' → (G wr y' ∧ y'.cell? ⟨g, off2 + j, none⟩ = some (.int .i64 a))) := hide fun y y' hy gy => ⟨hy.1.trans gy, gy.cell hy.2⟩
                  have C1 : Hid (∀ y, (G wr y ∧ y.cell? ⟨g, off2 + j, none⟩ = some (.int .i64 a)) → Calls Tryz.prog 11 #[.pointer (some ⟨x.hb, 0, none⟩)] y fun e w' => e = .returned (.pointer (some ⟨x.b.cb, 0, none⟩)) ∧ G y w') := hide fun y hy => unhide CC y ((unhide g7).trans hy.1)
                  have C2 : Hid (∀ y, (G wr y ∧ y.cell? ⟨g, off2 + j, none⟩ = some (.int .i64 a)) → Calls Tryz.prog 13 #[.pointer (some ⟨x.b.cb, 0, none⟩)] y fun e w' => e = .returned (.pointer (some ⟨x.xl.d.ab, 0, none⟩)) ∧ G y w') := hide fun y hy => unhide CR y ((unhide g7).trans hy.1)
                  have C3 : Hid (∀ y, (G wr y ∧ y.cell? ⟨g, off2 + j, none⟩ = some (.int .i64 a)) → Calls Tryz.prog 15 #[.pointer (some ⟨x.xl.d.ab, 0, none⟩), .int .i64 a] y fun e w' => e = .returned (.bool true) ∧ G y w') := hide fun y hy => unhide CI' y ((unhide g7).trans hy.1) j a ha
                  clear CC CR CI' RW' ha hlt2 hjk
                  go_wp2_with fail
                  go_region_held3 (fun y => G wr y ∧ y.cell? ⟨g, off2 + j, none⟩ = some (.int .i64 a))
                    (first | assumption | exact unhide KD | exact unhide KC _ _ (by assumption) (by assumption))
                    ((first
                      | (go_at_call 11; refine (unhide C1 _ ?_).mono ?_; assumption; rintro e x4 ⟨rfl, hg4⟩)
                      | (go_at_call 13; refine (unhide C2 _ ?_).mono ?_; assumption; rintro e x5 ⟨rfl, hg5⟩)
                      | (go_at_call 15; refine (unhide C3 _ ?_).mono ?_; assumption; rintro e x6 ⟨rfl, hg6⟩)))
                  all_goals
                    go_wp2_with fail
                    go_roundw
                    case rel => exact ⟨hide ((unhide g7).trans (by assumption : G wr _ ∧ _).1), j + 1, by first | rw [hwj1, unhide hj1] | rw [unhide hj1], hjK1⟩
                    case measure => first | (rw [hwj1]; exact unhide DJ) | exact unhide DJ
            · have hlt3 : s < 20 := Nat.lt_of_le_of_ne (unhide hs).2 hs20
              have hsI : (s : Int) < 20 := by omega
              have hsn : Hid (1 ≤ s + 1 ∧ s + 1 ≤ 20) := hide (by omega)
              have CT3 : Hid (∀ y, G wz y → Calls Tryz.prog 14 #[.pointer (some ⟨x.xl.d.ab, 0, none⟩), .int .i64 (s : Int)] y fun e w' => e = .returned (.int .u64 (t s : Int)) ∧ G y w') := hide fun y g => unhide CT y g s (unhide hs).1 hlt3
              have hF : Hid (sumF t s + popF 64 (t s) = sumF t (s + 1)) := hide (by show _ = sumF t s + _; rw [if_pos (unhide hs).1])
              have CA1 := hide (unhide CCy _ (unhide g7))
              replace hlt3 := hide hlt3
              clear hs20
              go_wp2_with fail
              refine (unhide CA1).mono ?_
              rintro e w7 ⟨rfl, gA⟩
              have g8 := hide ((unhide g7).trans gA)
              have CA2 := hide (unhide CAr _ (unhide g8))
              clear CA1 gA
              go_wp2_with fail
              refine (unhide CA2).mono ?_
              rintro e w8 ⟨rfl, gB⟩
              have g9 := hide ((unhide g8).trans gB)
              have CA3 := hide (unhide CT3 _ (unhide g9))
              clear CA2 gB g8
              go_wp2_with fail
              refine (unhide CA3).mono ?_
              rintro e w9 ⟨rfl, gC⟩
              have g10 := hide ((unhide g9).trans gC)
              clear CA3 gC g9 CT3
              obtain ⟨qs, hqs⟩ : ∃ q, sumF t s = q := ⟨_, rfl⟩
              obtain ⟨ms, hms⟩ : ∃ m, t s = m := ⟨_, rfl⟩
              have h32 : Hid (ms < 4294967296) := hide (by rw [← hms]; exact unhide ht32 s)
              rw [hqs, hms] at hF
              rw [hqs, hms]
              replace hqs := hide hqs
              replace hms := hide hms
              have hL : Hid (sumF t (s + 1) ≤ 200) := hide (unhide htL _ (unhide hsn).2)
              go_wp2_with fail
              go_loopw [16, 18] (fun c16 c18 wq => Hid (G wz wq) ∧ ∃ q m : Nat, c16 = .int .i64 (q : Int) ∧ c18 = .int .u64 (m : Int) ∧ Hid (m < 4294967296 ∧ q + popF 64 m = sumF t (s + 1))) (fun _ c18 _ => (intOf c18).toNat)
              case atStart => exact ⟨g10, qs, ms, rfl, rfl, hide ⟨unhide h32, unhide hF⟩⟩
              case round =>
                obtain ⟨g11, q, m, rfl, rfl, hm⟩ := hrel
                by_cases hm0 : m = 0
                · subst hm0
                  have hq : q = sumF t (s + 1) := by have := (unhide hm).2; rw [popF_zero] at this; omega
                  subst hq
                  have e0 : (((0 : Nat) : Int) != 0) = false := by simp
                  clear hm
                  go_wp2_with fail
                  go_roundw
                  case rel => exact ⟨g11, s + 1, rfl, rfl, hsn⟩
                  case measure =>
                    have := unhide hlt3
                    show 20 - ((s : Int) + 1).toNat < 20 - (s : Int).toNat
                    omega
                · have e0 : ((m : Int) != 0) = true := by simp; omega
                  obtain ⟨m1, hb, hm1, hpop⟩ := kern m hm0 (unhide hm).1
                  have hq1 : wrap64 ((q : Int) + 1) = (q : Int) + 1 := by have := unhide hL; have := (unhide hm).2; unfold wrap64; omega
                  replace hm0 := hide hm0
                  replace hm1 := hide hm1
                  replace hpop := hide hpop
                  go_wp2_with fail
                  go_roundw
                  case rel => exact ⟨g11, q + 1, m1, by first | rw [hq1]; rfl | rfl, by first | rw [hb] | rfl, hide ⟨by have := unhide hm1; have := (unhide hm).1; omega, by have := unhide hpop; have := (unhide hm).2; omega⟩⟩
                  case measure =>
                    have := unhide hm1
                    first | rw [hb] | skip
                    show (m1 : Int).toNat < (m : Int).toNat
                    omega
end Go.Proofs.YtgflkpccddfalaaGreatDoor

/- ChansHolds of package gantlinelaw15: for every room and every list of calls the law answers true; nothing that was there is turned. -/
namespace Go.Proofs.YtgflkpccddfalaaGreatDoor
set_option maxRecDepth 100000
open Go.ChangeShapes Go.WideShapes Go.ChangeAt Go.RowKit Go.Maps Go.Deep

set_option maxHeartbeats 2000000 in
set_option maxRecDepth 100000 in
theorem holds15_out (w : World) (r : Int) (ao : Option Addr) (N lc : Nat) (h : ¬ (1 ≤ r ∧ r ≤ 40 ∧ N ≤ 100)) (CA : Hid (Calls Tryz.prog 4 #[] w fun e w' => e = .returned (.bool true) ∧ G w w')) :
    Calls Tryz.prog 3 #[.int .i64 r, .slice ao N lc] w fun e w' => e = .returned (.bool true) ∧ G w w' := by
  replace h := hide h
  go_enter Tryz.func3, Tryz.ntmps3
  go_wp2_with fail
  refine (unhide CA).mono ?_
  rintro e w0 ⟨rfl, g0⟩
  replace g0 := hide g0
  clear CA
  by_cases h1 : r < 1
  · have d1 : decide (r < 1) = true := by simpa using h1
    clear h1
    go_wp2_with fail
    go_ret
    exact ⟨rfl, unhide g0⟩
  have d1 : decide (r < 1) = false := by simpa using h1
  replace h1 := hide h1
  by_cases h2 : 40 < r
  · have d2 : decide (40 < r) = true := by simpa using h2
    clear h2
    go_wp2_with fail
    go_ret
    exact ⟨rfl, unhide g0⟩
  have d2 : decide (40 < r) = false := by simpa using h2
  have h3 : 100 < N := by have := unhide h; have := unhide h1; omega
  have d3 : decide ((100 : Int) < (N : Int)) = true := by simp; omega
  have d3' : decide (100 < N) = true := by simp; omega
  clear h2 h3
  go_wp2_with fail
  go_ret
  exact ⟨rfl, unhide g0⟩

theorem walk_ChansHolds (r : Int) (ao : Option Addr) (N lc : Nat) (l : List Ac) {P : Prop} (_ : P) (w : World) (hA : IsActs w ao N l) (ht : Tab w) : Calls Tryz.prog 3 #[.int .i64 r, .slice ao N lc] w fun e w' => e = .returned (.bool true) ∧ Below w.heap.size w w' := by
  by_cases h : 1 ≤ r ∧ r ≤ 40 ∧ N ≤ 100
  · obtain ⟨h1, h2, h3⟩ := h
    obtain ⟨R, rfl⟩ : ∃ R : Nat, r = (R : Int) := ⟨r.toNat, by omega⟩
    exact holds15 w ht R (by omega) (by omega) ao N lc l hA h3 (hide (awake15 w ht))
  · exact holds15_out w r ao N lc h (hide (awake15 w ht))


set_option maxRecDepth 100000 in
theorem lifted_ChansHolds (os : Os) (started : os.Started) (H : Type) (enc : TypeId × Value → H) :
    ReturnsInHanded {} Tryz.checked os 3 .any (fun w args => (Rows.chansHoldsSpec.pre enc Tryz.prog Tryz.f3 [] false w args ∧ laidMetH Tryz.prog laidTab w) ∧ sizedMet enc Tryz.prog Tryz.f3 (OpenSpec.ofChange Rows.chansHoldsSpec) false w args)
      (Rows.chansHoldsSpec.post enc Tryz.prog Tryz.f3 false true false false) := by
  refine returnsInHanded_of_change_and (C := Tryz.checked) (X := fun w _ => laidMetH Tryz.prog laidTab w) (fun _ _ _ hh h => h.of_heap hh) own started (by kernel_rfl) Tryz.func3
    (ChangeSpec.witness_shaped (enc := enc) (C := Tryz.checked) (os := os) (X := fun w _ => laidMetH Tryz.prog laidTab w) false (World.doorLaid Tryz.prog 400 os) #[.int .i64 0, .slice none 0 0] 8 rfl (World.shaped_of_RefB (by kernel_rfl) (by kernel_rfl)) (by kernel_rfl) (by kernel_rfl) (by kernel_rfl) (door_met os _)) ?_
  intro W base args ds gs before hval0 hW _ _ hL _
  have hval : ∀ (j : Nat) t v, Tryz.f3.params[j]? = some t → args[j]? = some v → Value.okWide Tryz.prog W .any base t v := hval0
  have hW' := hW
  obtain ⟨p, q, hA0, hV, rfl, hfz, hnd⟩ := hW
  have hA : DataW.TrodAll enc Tryz.prog W 0 (fun _ => true) true Tryz.f3.params.toList args.toList ds p := hA0
  rw [Tryz.params3] at hA hval
  obtain ⟨v0, vs0, d0, ds0, p0, q0, hargs, rfl, rfl, h0, r0⟩ := trodAll_cons hA
  obtain ⟨v1, vs1, d1, ds1, p1, q1, rfl, rfl, rfl, h1, r1⟩ := trodAll_cons r0
  obtain ⟨rfl, rfl, rfl⟩ := trodAll_nil r1
  obtain rfl : args = #[v0, v1] := by cases args; simp_all
  obtain ⟨rfl, rfl⟩ := trodVars_none hV
  have k0 := h0
  have lt0 : ∀ x ∈ p0, x.block < W.heap.size := by obtain ⟨m, hm⟩ := k0; exact DataW.trod_lt m _ _ _ hm
  obtain ⟨a0, rfl, rfl, rfl, w0⟩ := open_int Tryz.underlying2 (hval 0 2 v0 rfl rfl) h0
  have k1 := h1
  have lt1 : ∀ x ∈ p1, x.block < W.heap.size := by obtain ⟨m, hm⟩ := k1; exact DataW.trod_lt m _ _ _ hm
  obtain ⟨a1, n1, c1, l1, rfl, w1⟩ := open_acts (hval 1 22 v1 rfl rfl) h1
  clear hA0 hval0
  refine (walk_ChansHolds a0 a1 n1 c1 l1 w0 W w1 (tab_of_laid hL)).mono fun e W' ⟨he, hg⟩ => ?_
  subst he
  exact ⟨_, rfl, _, _, _, [], _, [], hW', trodAll_mk1 (shut_bool Tryz.underlying4 _), (trodAll_cons_mk (Below.trod laidOut (by kernel_rfl) (of_decide_eq_true (by kernel_rfl)) k0 hg lt0) (trodAll_cons_mk (Below.trod laidOut (by kernel_rfl) (of_decide_eq_true (by kernel_rfl)) k1 hg lt1) trodAll_mk0)), rfl, hg.frame _, fun h => by cases h⟩

theorem row_ChansHolds : Rows.ChansHoldsSaid :=
  OpenClaim.holds_of_wide 3 Tryz.f3 rfl rfl rfl rfl rfl rfl rfl ⟨rfl, rfl, rfl, rfl, rfl⟩ rfl rfl rfl rfl rfl (by kernel_rfl) Tryz.func3 (by kernel_rfl)
    (of_decide_eq_true (by kernel_rfl)) (by unfold Func.isWrapper; first | (rw [if_pos (by decide +kernel)]; kernel_rfl) | (rw [if_neg (by decide +kernel)]; exact ⟨rfl, rfl⟩))
    (fun os started H enc _ => lifted_ChansHolds os started H enc)

/-- THE STATEMENT. -/
theorem card_ChansHolds : Rows.ChansHoldsCardSaid :=
  Claim7.holds_tied_plain_at .later [] [.data] true (true, "a6ef4cffb555e563b1cbf649f5c871dcebee0c4092be26163f4695bfb9647358") false
    row_ChansHolds (fun _ h => by cases h) (by kernel_rfl) (fun _ h => by cases h) chansHolds_row_tie rfl ⟨rfl, rfl⟩ (by kernel_rfl) rfl
    (fun f fn hf hfn => by
      obtain rfl : f = 3 := Option.some.inj ((show Tryz.prog.funcNamed "gantline/gantlinelaw15.ChansHolds" = some 3 by kernel_rfl).symm.trans hf) |>.symm
      obtain rfl : fn = Tryz.f3 := (Option.some.inj (Tryz.func3.symm.trans hfn)).symm
      exact ⟨by kernel_rfl, fun j t ht => by
        rw [Tryz.params3] at ht
        have hm : t ∈ [2, 22] := by simpa using Array.mem_of_getElem? ht
        have hall : ([2, 22].all fun u => !Tryz.prog.wantsStandIn u) = true := by kernel_rfl
        exact (show Tryz.prog.wantsStandIn t = false by simpa using List.all_eq_true.1 hall t hm)⟩)
    (by kernel_rfl)
#print axioms card_ChansHolds
end Go.Proofs.YtgflkpccddfalaaGreatDoor
