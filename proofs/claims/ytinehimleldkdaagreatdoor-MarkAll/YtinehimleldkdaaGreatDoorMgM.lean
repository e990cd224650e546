/- Here: markers: plain, in memory, their first calls; what world makes, plain. -/
import Derived.Test.YtinehimleldkdaaGreatDoorGeomPlain
import Derived.Test.YtinehimleldkdaaGreatDoorMgH
import Derived.Test.YtinehimleldkdaaGreatDoorArenaMark
import Derived.Test.YtinehimleldkdaaGreatDoorArenaSweep
import Derived.Test.YtinehimleldkdaaGreatDoorPlaysRel
import Derived.Test.YtinehimleldkdaaGreatDoorMgR
import Derived.Test.YtinehimleldkdaaGreatDoorMgY
import Derived.Test.YtinehimleldkdaaGreatDoorApartPlain
import Derived.Maps.OwnSet
import Derived.Maps.OwnOps
/- PLAIN: what can be come to; marking as chapter 7 tells of it, over any addresses and any fields; no Go in it. -/
namespace Go.Proofs.YtinehimleldkdaaGreatDoor
set_option maxRecDepth 100000

/-! ### lists -/
theorem nodup_sub {α : Type} [DecidableEq α] : ∀ {l1 l2 : List α}, l1.Nodup → (∀ y, y ∈ l1 → y ∈ l2) → l1.length ≤ l2.length
  | [], _, _, _ => Nat.zero_le _
  | x :: r, l2, h, hs => by
    obtain ⟨hx, hr⟩ := List.nodup_cons.1 h
    have hm := hs x List.mem_cons_self
    have : r.length ≤ (l2.erase x).length := nodup_sub hr fun y hy => by
      have hne : y ≠ x := fun e => hx (e ▸ hy)
      rw [List.mem_erase_of_ne hne]
      exact hs y (List.mem_cons_of_mem _ hy)
    rw [List.length_erase_of_mem hm] at this
    have hp : 0 < l2.length := List.length_pos_of_mem hm
    rw [List.length_cons]
    omega
theorem nodup_len {α : Type} [DecidableEq α] {l1 l2 : List α} (h1 : l1.Nodup) (h2 : l2.Nodup) (h : ∀ y, y ∈ l1 ↔ y ∈ l2) : l1.length = l2.length :=
  Nat.le_antisymm (nodup_sub h1 fun y hy => (h y).1 hy) (nodup_sub h2 fun y hy => (h y).2 hy)
/-- Rising. -/
abbrev Asc (l : List Int) : Prop := l.Pairwise fun x y => x < y
theorem Asc.nodup {l : List Int} (h : Asc l) : l.Nodup := List.Pairwise.imp (fun h => by omega) h
theorem Asc.ext : ∀ {l1 l2 : List Int}, Asc l1 → Asc l2 → (∀ y, y ∈ l1 ↔ y ∈ l2) → l1 = l2
  | [], [], _, _, _ => rfl
  | [], y :: _, _, _, h => by have := (h y).2 List.mem_cons_self; cases this
  | x :: _, [], _, _, h => by have := (h x).1 List.mem_cons_self; cases this
  | x :: r, y :: t, h1, h2, h => by
    obtain ⟨a1, a2⟩ := List.pairwise_cons.1 h1
    obtain ⟨b1, b2⟩ := List.pairwise_cons.1 h2
    have exy : x = y := by
      rcases List.mem_cons.1 ((h x).1 List.mem_cons_self) with e | e
      · exact e
      · rcases List.mem_cons.1 ((h y).2 List.mem_cons_self) with e2 | e2
        · exact e2.symm
        · have := a1 y e2
          have := b1 x e
          omega
    subst exy
    have : r = t := Asc.ext a2 b2 fun z => by
      constructor
      · intro hz
        rcases List.mem_cons.1 ((h z).1 (List.mem_cons_of_mem _ hz)) with e | e
        · have := a1 z hz; omega
        · exact e
      · intro hz
        rcases List.mem_cons.1 ((h z).2 (List.mem_cons_of_mem _ hz)) with e | e
        · have := b1 z hz; omega
        · exact e
    rw [this]

/-! ### what can be come to -/
section
variable (is : Int → Bool) (F : Int → List Int)
/-- It is in whatever holds the roots and is closed. -/
def Rch (S : List Int) (y : Int) : Prop := ∀ P : Int → Prop, (∀ y, y ∈ S → is y = true → P y) → (∀ x y, P x → y ∈ F x → is y = true → P y) → P y
variable {is F}
theorem Rch.root {S : List Int} {y : Int} (h : y ∈ S) (hi : is y = true) : Rch is F S y := fun _ h0 _ => h0 y h hi
theorem Rch.step {S : List Int} {x y : Int} (h : Rch is F S x) (hy : y ∈ F x) (hi : is y = true) : Rch is F S y := fun P h0 h1 => h1 x y (h P h0 h1) hy hi
/-- What holds the roots and is closed holds all. -/
theorem Rch.least {S : List Int} {P : Int → Prop} (h0 : ∀ y, y ∈ S → is y = true → P y) (h1 : ∀ x y, P x → y ∈ F x → is y = true → P y) {y : Int} (r : Rch is F S y) : P y := r P h0 h1
theorem Rch.taken {S : List Int} {y : Int} (h : Rch is F S y) : is y = true := h.least (P := fun y => is y = true) (fun _ _ h => h) (fun _ _ _ _ h => h)
theorem Rch.mono {S T : List Int} (h : ∀ y, y ∈ S → y ∈ T) {y : Int} (r : Rch is F S y) : Rch is F T y := r.least (P := Rch is F T) (fun y a b => Rch.root (h y a) b) (fun _ _ a b c => Rch.step a b c)
theorem Rch.again {S T : List Int} (h : ∀ y, y ∈ T → Rch is F S y) {y : Int} (r : Rch is F T y) : Rch is F S y := r.least (P := Rch is F S) (fun y a _ => h y a) (fun _ _ a b c => Rch.step a b c)

/-! ### marking -/
/-- What is marked, in the order in which it was; what of it is grey. -/
structure Mk where
  m : List Int
  g : List Int
variable (is F)
def Mk.shade (k : Mk) (y : Int) : Mk := if is y = true ∧ y ∉ k.m then ⟨k.m ++ [y], k.g ++ [y]⟩ else k
def Mk.shades (k : Mk) : List Int → Mk
  | [] => k
  | y :: r => Mk.shades (k.shade is y) r
variable {is F}
theorem shade_mem (k : Mk) (y z : Int) : z ∈ (k.shade is y).m ↔ z ∈ k.m ∨ (z = y ∧ is y = true) := by
  unfold Mk.shade
  split
  · rename_i h
    simp only [List.mem_append, List.mem_singleton]
    constructor
    · rintro (e | e)
      · exact Or.inl e
      · exact Or.inr ⟨e, h.1⟩
    · rintro (e | ⟨e, _⟩)
      · exact Or.inl e
      · exact Or.inr e
  · rename_i h
    constructor
    · exact Or.inl
    · rintro (e | ⟨rfl, e⟩)
      · exact e
      · exact Classical.byContradiction fun hn => h ⟨e, hn⟩
theorem shades_mem : ∀ (l : List Int) (k : Mk) (z : Int), z ∈ (k.shades is l).m ↔ z ∈ k.m ∨ (z ∈ l ∧ is z = true)
  | [], k, z => by simp [Mk.shades]
  | y :: r, k, z => by
    rw [Mk.shades, shades_mem r, shade_mem]
    simp only [List.mem_cons]
    constructor
    · rintro ((e | ⟨rfl, e⟩) | ⟨e1, e2⟩)
      · exact Or.inl e
      · exact Or.inr ⟨Or.inl rfl, e⟩
      · exact Or.inr ⟨Or.inr e1, e2⟩
    · rintro (e | ⟨rfl | e1, e2⟩)
      · exact Or.inl (Or.inl e)
      · exact Or.inl (Or.inr ⟨rfl, e2⟩)
      · exact Or.inr ⟨e1, e2⟩

/-- What stays while marking goes on: both lists without doubles, the grey ones marked, so many more than the grey ones. -/
structure MOk (k : Mk) (n : Nat) : Prop where
  gm : ∀ y, y ∈ k.g → y ∈ k.m
  ndm : k.m.Nodup
  ndg : k.g.Nodup
  cnt : n + k.g.length = k.m.length
theorem nodup_snoc {l : List Int} {y : Int} (h : l.Nodup) (hy : y ∉ l) : (l ++ [y]).Nodup := by
  rw [List.nodup_append]
  refine ⟨h, by simp, fun a ha b hb => ?_⟩
  simp at hb
  subst hb
  exact fun e => hy (e ▸ ha)
theorem MOk.shade {k : Mk} {n : Nat} (h : MOk k n) (y : Int) : MOk (k.shade is y) n := by
  unfold Mk.shade
  split
  · rename_i hh
    refine ⟨fun z hz => ?_, nodup_snoc h.ndm hh.2, nodup_snoc h.ndg fun e => hh.2 (h.gm y e), by have := h.cnt; simp; omega⟩
    rcases List.mem_append.1 hz with e | e
    · exact List.mem_append.2 (Or.inl (h.gm z e))
    · exact List.mem_append.2 (Or.inr e)
  · exact h
theorem MOk.shades : ∀ (l : List Int) {k : Mk} {n : Nat}, MOk k n → MOk (k.shades is l) n
  | [], _, _, h => h
  | y :: r, _, _, h => MOk.shades r (h.shade y)
/-- Those that were grey are grey still. -/
theorem shade_grey (k : Mk) (y z : Int) (h : z ∈ k.g) : z ∈ (k.shade is y).g := by
  unfold Mk.shade
  split
  · exact List.mem_append.2 (Or.inl h)
  · exact h
/-- Whatever is newly marked is grey. -/
theorem shade_new (k : Mk) (y z : Int) (h : z ∈ (k.shade is y).m) (hn : z ∉ k.m) : z ∈ (k.shade is y).g := by
  unfold Mk.shade at h ⊢
  split
  · rename_i hh
    rw [if_pos hh] at h
    rcases List.mem_append.1 h with e | e
    · exact absurd e hn
    · exact List.mem_append.2 (Or.inr e)
  · rename_i hh
    rw [if_neg hh] at h
    exact absurd h hn
theorem shades_grey : ∀ (l : List Int) (k : Mk) (z : Int), z ∈ k.g → z ∈ (k.shades is l).g
  | [], _, _, h => h
  | y :: r, k, z, h => shades_grey r _ z (shade_grey k y z h)
theorem shades_new : ∀ (l : List Int) (k : Mk) (z : Int), z ∈ (k.shades is l).m → z ∉ k.m → z ∈ (k.shades is l).g
  | [], _, _, h, hn => absurd h hn
  | y :: r, k, z, h, hn => by
    rw [Mk.shades] at h ⊢
    by_cases e : z ∈ (k.shade is y).m
    · exact shades_grey r _ z (shade_new k y z e hn)
    · exact shades_new r _ z h e

/-- From roots that were shaded: n looked at. -/
structure MInv (S : List Int) (k : Mk) (n : Nat) : Prop where
  ok : MOk k n
  sub : ∀ y, y ∈ k.m → Rch is F S y
  roots : ∀ y, y ∈ S → is y = true → y ∈ k.m
  clo : ∀ x, x ∈ k.m → x ∉ k.g → ∀ y, y ∈ F x → is y = true → y ∈ k.m

theorem minv_start (S : List Int) : MInv (is := is) (F := F) S (Mk.shades is ⟨[], []⟩ S) 0 := by
  have ok : MOk (Mk.shades is ⟨[], []⟩ S) 0 := MOk.shades S ⟨(fun y hy => by cases hy), List.nodup_nil, List.nodup_nil, rfl⟩
  refine ⟨ok, fun y hy => ?_, fun y hy h => (shades_mem S _ y).2 (Or.inr ⟨hy, h⟩), fun x hx hg => absurd (shades_new S _ x hx (by simp)) hg⟩
  rcases (shades_mem S _ y).1 hy with e | ⟨e, h⟩
  · cases e
  · exact .root e h
theorem MInv.step {S : List Int} {m : List Int} {x : Int} {r : List Int} {n : Nat} (h : MInv (is := is) (F := F) S ⟨m, x :: r⟩ n) : MInv (is := is) (F := F) S (Mk.shades is ⟨m, r⟩ (F x)) (n + 1) := by
  obtain ⟨hx, hr⟩ := List.nodup_cons.1 h.ok.ndg
  have hxm : x ∈ m := h.ok.gm x List.mem_cons_self
  have ok0 : MOk ⟨m, r⟩ (n + 1) := ⟨fun y hy => h.ok.gm y (List.mem_cons_of_mem _ hy), h.ok.ndm, hr, by have := h.ok.cnt; simp at this ⊢; omega⟩
  refine ⟨MOk.shades _ ok0, fun y hy => ?_, fun y hy hi => (shades_mem _ _ y).2 (Or.inl (h.roots y hy hi)), fun z hz hg y hy hi => ?_⟩
  · rcases (shades_mem _ _ y).1 hy with e | ⟨e, hi⟩
    · exact h.sub y e
    · exact .step (h.sub x hxm) e hi
  · refine (shades_mem _ _ y).2 ?_
    by_cases e : z = x
    · subst e; exact Or.inr ⟨hy, hi⟩
    · by_cases em : z ∈ m
      · by_cases eg : z ∈ x :: r
        · rcases List.mem_cons.1 eg with e2 | e2
          · exact absurd e2 e
          · exact absurd (shades_grey _ _ z e2) hg
        · exact Or.inl (h.clo z em eg y hy hi)
      · exact absurd (shades_new _ _ z hz em) hg
/-- When none is grey, just what can be come to is marked, and so many were looked at. -/
theorem MInv.done {S m : List Int} {n : Nat} (h : MInv (is := is) (F := F) S ⟨m, []⟩ n) : (∀ y, y ∈ m ↔ Rch is F S y) ∧ n = m.length := by
  refine ⟨fun y => ⟨h.sub y, fun r => ?_⟩, by have := h.ok.cnt; simpa using this⟩
  exact Rch.least (P := fun y => y ∈ m) h.roots (fun x y hx hy hi => h.clo x hx (by simp) y hy hi) r
theorem MInv.few {S m g : List Int} {n : Nat} (h : MInv (is := is) (F := F) S ⟨m, g⟩ n) {A : List Int} (hA : ∀ y, is y = true → y ∈ A) : n ≤ A.length := by
  have h1 := nodup_sub h.ok.ndm fun y hy => hA y (h.sub y hy).taken
  have h2 := h.ok.cnt
  simp only at h1 h2
  omega
end
end Go.Proofs.YtinehimleldkdaaGreatDoor

/- PLAIN: an object's fields, a marker over an arena; against marking over any addresses. -/
namespace Go.Proofs.YtinehimleldkdaaGreatDoor
set_option maxRecDepth 100000

/-- The words of the fields that hold addresses, but nought. -/
def fldL (k : Int) (m n : Nat) (wd : Nat → Int) : List Int := (List.range (n - 1)).filterMap fun (f : Nat) => if Hd.holdsB k m (f : Int) (n : Int) = true ∧ wd (1 + f) ≠ 0 then some (wd (1 + f)) else none
/-- P7.1's Fields; the table as kinds and maps by their numbers. -/
def Ab.flds (a : Ab) (T : List (Int × Nat)) (x : Int) : List Int :=
  if a.is x = true ∧ Hd.uokB (a.wd x) = true ∧ Hd.up0 (a.wd x) ≤ gw (a.clsI (gs x)) then
    match T[(Hd.up2 (a.wd x)).toNat]? with
    | some (k, m) => fldL k m (Hd.up0 (a.wd x)).toNat fun i => a.wd (x + i)
    | none => []
  else []

/-! ### marking turns marks alone -/
theorem markA_same (a : Ab) (x : Int) : (a.markA x).n = a.n ∧ (a.markA x).cls = a.cls ∧ (a.markA x).tk = a.tk ∧ (a.markA x).wd = a.wd := by
  unfold Ab.markA
  split
  · exact ⟨rfl, rfl, rfl, rfl⟩
  · exact ⟨rfl, rfl, rfl, rfl⟩
theorem markA_clsI (a : Ab) (x s : Int) : (a.markA x).clsI s = a.clsI s := by
  obtain ⟨e1, e2, _, _⟩ := markA_same a x
  unfold Ab.clsI
  rw [e1, e2]
theorem markA_is (a : Ab) (x y : Int) : (a.markA x).is y = a.is y := by
  unfold Ab.is
  rw [markA_clsI, (markA_same a x).2.2.1]
theorem markA_flds (a : Ab) (T : List (Int × Nat)) (x y : Int) : (a.markA x).flds T y = a.flds T y := by
  unfold Ab.flds
  rw [markA_is, markA_clsI, (markA_same a x).2.2.2]
theorem where_is {a : Ab} (g : a.Good) {x : Int} (h : a.is x = true) : ∃ s p : Nat, 1 ≤ s ∧ s < a.n ∧ 0 ≤ a.cls s ∧ (p : Int) < gp (a.cls s) ∧ x = ga s p (a.cls s) ∧ gs x = s ∧ a.pl x = p := by
  obtain ⟨s, p, h1, h2, h3, h4, _, rfl⟩ := (Ab.is_iff g.ok x).1 h
  have n1 := g.ok.n1
  obtain ⟨_, e1, e2, _⟩ := ga_at (s := s) (p := p) h1 (by omega) h3 (g.ok.cr s).2 h4
  exact ⟨s, p, h1, h2, h3, h4, rfl, e1, by unfold Ab.pl; rw [e1, a.clsI_at h1 h2, e2]⟩
theorem markA_isM {a : Ab} (g : a.Good) {x y : Int} (hx : a.markB x = true) (hy : a.is y = true) : (a.markA x).isM y = (a.isM y || decide (y = x)) := by
  have hxi : a.is x = true := by unfold Ab.markB at hx; simp at hx; exact hx.1
  obtain ⟨s, p, h1, h2, h3, h4, ex, e1, e2⟩ := where_is g hxi
  obtain ⟨t, q, k1, k2, k3, k4, ey, f1, f2⟩ := where_is g hy
  have eA : a.markA x = a.mark s p := by unfold Ab.markA; rw [if_pos hx, e1, e2]; rfl
  have ep : (a.markA x).pl y = q := by unfold Ab.pl at f2 ⊢; rw [markA_clsI]; exact f2
  unfold Ab.isM
  rw [ep, f2, f1, ((a.markA x).I_at (s := t) k1 (by rw [(markA_same a x).1]; exact k2)).2.2, (a.I_at k1 k2).2.2, eA]
  show (upd a.mr s (a.mr s ||| 2 ^ p) t).testBit (q : Int).toNat = _
  have hq : (q : Int).toNat = q := by simp
  rw [hq]
  by_cases e : t = s
  · subst e
    rw [upd_same, Nat.testBit_or, Nat.testBit_two_pow]
    congr 1
    rw [Bool.eq_iff_iff]
    simp only [decide_eq_true_eq]
    constructor
    · intro e; subst e; rw [ex, ey]
    · intro e
      have : (p : Int) = q := by rw [← e2, ← f2, e]
      omega
  · rw [upd_other _ _ e]
    have : ¬ y = x := by
      intro e3
      have : (t : Int) = s := by rw [← f1, ← e1, e3]
      omega
    simp [this]

/-! ### a marker -/
structure Mr where
  a : Ab
  T : List (Int × Nat)
  g : List Int
def Mr.shade (M : Mr) (x : Int) : Mr := if M.a.markB x = true then ⟨M.a.markA x, M.T, M.g ++ [x]⟩ else M
def Mr.shades (M : Mr) : List Int → Mr
  | [] => M
  | y :: r => Mr.shades (M.shade y) r
def Mr.step (M : Mr) : Mr :=
  match M.g with
  | [] => M
  | x :: r => Mr.shades ⟨M.a, M.T, r⟩ (M.a.flds M.T x)
theorem Mr.shade_T (M : Mr) (x : Int) : (M.shade x).T = M.T := by unfold Mr.shade; split <;> rfl
theorem Mr.shade_n (M : Mr) (x : Int) : (M.shade x).a.n = M.a.n := by
  unfold Mr.shade
  split
  · exact (markA_same _ _).1
  · rfl

/-- The marker does as marking over the addresses that are taken, by these fields. -/
structure Sim (is : Int → Bool) (F : Int → List Int) (M : Mr) (k : Mk) : Prop where
  eg : M.g = k.g
  is_ : ∀ z, M.a.is z = is z
  fl : ∀ z, M.a.flds M.T z = F z
  mz : ∀ z, is z = true → (M.a.isM z = true ↔ z ∈ k.m)
  good : M.a.Good
section
variable {is : Int → Bool} {F : Int → List Int} {M : Mr} {k : Mk}
theorem Sim.markB (h : Sim is F M k) (y : Int) : M.a.markB y = true ↔ (is y = true ∧ y ∉ k.m) := by
  unfold Ab.markB
  rw [h.is_ y, Bool.and_eq_true, Bool.not_eq_true']
  constructor
  · rintro ⟨h1, h2⟩
    exact ⟨h1, fun hm => by rw [(h.mz y h1).2 hm] at h2; cases h2⟩
  · rintro ⟨h1, h2⟩
    refine ⟨h1, ?_⟩
    rw [← Bool.not_eq_true]
    exact fun e => h2 ((h.mz y h1).1 e)
theorem Sim.shade (h : Sim is F M k) (y : Int) : Sim is F (M.shade y) (k.shade is y) := by
  unfold Mr.shade Mk.shade
  by_cases hb : M.a.markB y = true
  · have hk := (h.markB y).1 hb
    rw [if_pos hb, if_pos hk]
    refine ⟨by show M.g ++ [y] = k.g ++ [y]; rw [h.eg], fun z => (markA_is _ _ _).trans (h.is_ z), fun z => (markA_flds _ _ _ _).trans (h.fl z), fun z hz => ?_, h.good.markA y⟩
    show (M.a.markA y).isM z = true ↔ z ∈ k.m ++ [y]
    rw [markA_isM h.good hb (by rw [h.is_ z]; exact hz), Bool.or_eq_true, h.mz z hz, List.mem_append, List.mem_singleton, decide_eq_true_eq]
  · have hk : ¬ (is y = true ∧ y ∉ k.m) := fun e => hb ((h.markB y).2 e)
    rw [if_neg hb, if_neg hk]
    exact h
theorem Sim.shades : ∀ (l : List Int) {M : Mr} {k : Mk}, Sim is F M k → Sim is F (M.shades l) (k.shades is l)
  | [], _, _, h => h
  | y :: r, _, _, h => Sim.shades r (h.shade y)
theorem Sim.step {m : List Int} {x : Int} {r : List Int} (h : Sim is F M ⟨m, x :: r⟩) : Sim is F M.step (Mk.shades is ⟨m, r⟩ (F x)) := by
  have e : M.step = Mr.shades ⟨M.a, M.T, r⟩ (F x) := by
    unfold Mr.step
    rw [h.eg]
    simp only
    rw [h.fl x]
  rw [e]
  exact Sim.shades _ ⟨rfl, h.is_, h.fl, h.mz, h.good⟩
end
end Go.Proofs.YtinehimleldkdaaGreatDoor

/- PLAIN: how many are marked; the rising list of what can be come to; the document's own way to it. -/
namespace Go.Proofs.YtinehimleldkdaaGreatDoor
set_option maxRecDepth 100000

theorem filter_parts {α : Type} {p q r : α → Bool} : ∀ {l : List α}, (∀ t, t ∈ l → p t = (q t || r t)) → (∀ t, t ∈ l → ¬ (q t = true ∧ r t = true)) → (l.filter p).length = (l.filter q).length + (l.filter r).length
  | [], _, _ => rfl
  | x :: t, h1, h2 => by
    have ih := filter_parts (l := t) (p := p) (q := q) (r := r) (fun y hy => h1 y (List.mem_cons_of_mem _ hy)) (fun y hy => h2 y (List.mem_cons_of_mem _ hy))
    have e := h1 x List.mem_cons_self
    have n := h2 x List.mem_cons_self
    rw [List.filter_cons, List.filter_cons, List.filter_cons, e]
    cases hq : q x <;> cases hr : r x
    · simp; exact ih
    · simp; omega
    · simp; omega
    · exact absurd ⟨hq, hr⟩ n

/-- The marks of the spans from 1 on, below k. -/
def sumM (a : Ab) : Nat → Nat
  | 0 => 0
  | k + 1 => sumM a k + if 1 ≤ k then popF 64 (a.mrI k) else 0

theorem span_marks {a : Ab} {l : List Thg} (g : a.Good) (r : Rel a l) {s : Nat} (h1 : 1 ≤ s) (h2 : s < a.n) : (l.filter fun t => decide (gs t.addr = s) && t.mr).length = popF 64 (a.mrI s) := by
  have e : popF 64 (a.mrI s) = cnt fun p => (a.mr s).testBit p := by rw [(a.I_at h1 h2).2.2]; exact popF_cnt _ 64
  rw [e]
  by_cases h3 : 0 ≤ a.cls s
  · rw [r.count g.ok h1 h2 h3 (fun b => b)]
    refine congrArg cnt (funext fun p => ?_)
    by_cases hb : (a.mr s).testBit p = true
    · rw [hb, g.ok.mb s h3 p hb]; rfl
    · simp only [Bool.not_eq_true] at hb
      rw [hb]; simp
  · obtain ⟨_, z2⟩ := g.z s (by omega)
    have hn := r.none g.ok (s := s) (by omega)
    rw [z2]
    have : (l.filter fun t => decide (gs t.addr = s) && t.mr) = [] := by
      rw [List.filter_eq_nil_iff]
      intro t ht
      have := hn t ht
      simp [this]
    rw [this]
    have hz : (cnt fun p => (0 : Nat).testBit p) = 0 := (cnt_zero _).2 fun p _ => Nat.zero_testBit p
    rw [hz]
    rfl
theorem below_marks {a : Ab} {l : List Thg} (g : a.Good) (r : Rel a l) : ∀ k, k ≤ a.n → (l.filter fun t => decide (gs t.addr < k) && t.mr).length = sumM a k
  | 0, _ => by
    have : (l.filter fun t => decide (gs t.addr < (0 : Nat)) && t.mr) = [] := by
      rw [List.filter_eq_nil_iff]
      intro t ht
      obtain ⟨s, p, k1, k2, k3, k4, _, k6, _⟩ := r.isT t ht
      have n1 := g.ok.n1
      obtain ⟨_, e1, _⟩ := ga_at (s := s) (p := p) k1 (by omega) k3 (g.ok.cr s).2 k4
      rw [← k6] at e1
      rw [e1]
      simp
      omega
    rw [this]
    rfl
  | k + 1, hk => by
    have ih := below_marks g r k (by omega)
    rw [filter_parts (q := fun t => decide (gs t.addr < k) && t.mr) (r := fun t => decide (gs t.addr = k) && t.mr), ih, sumM]
    · congr 1
      by_cases h1 : 1 ≤ k
      · rw [if_pos h1]; exact span_marks g r h1 (by omega)
      · rw [if_neg h1]
        obtain rfl : k = 0 := by omega
        have : (l.filter fun t => decide (gs t.addr = (0 : Nat)) && t.mr) = [] := by
          rw [List.filter_eq_nil_iff]
          intro t ht
          obtain ⟨s, p, k1, k2, k3, k4, _, k6, _⟩ := r.isT t ht
          have n1 := g.ok.n1
          obtain ⟨_, e1, _⟩ := ga_at (s := s) (p := p) k1 (by omega) k3 (g.ok.cr s).2 k4
          rw [← k6] at e1
          rw [e1]
          simp
          omega
        rw [this]
        rfl
    · intro t _
      cases t.mr
      · simp
      · rw [Bool.eq_iff_iff]
        simp only [Bool.and_true, Bool.or_eq_true, decide_eq_true_eq]
        omega
    · intro t _
      simp only [Bool.and_eq_true, decide_eq_true_eq]
      omega
/-- So many are marked. -/
theorem marks_all {a : Ab} {l : List Thg} (g : a.Good) (r : Rel a l) {m : List Int} (hm : m.Nodup) (h : ∀ z, z ∈ m ↔ a.is z = true ∧ a.isM z = true) : sumM a a.n = m.length := by
  rw [← below_marks g r a.n (Nat.le_refl _)]
  have e : (l.filter fun t => decide (gs t.addr < (a.n : Int)) && t.mr) = l.filter fun t => t.mr := by
    refine List.filter_congr fun t ht => ?_
    obtain ⟨s, p, k1, k2, k3, k4, _, k6, _⟩ := r.isT t ht
    have n1 := g.ok.n1
    obtain ⟨_, e1, _⟩ := ga_at (s := s) (p := p) k1 (by omega) k3 (g.ok.cr s).2 k4
    rw [← k6] at e1
    have : gs t.addr < (a.n : Int) := by rw [e1]; omega
    simp [this]
  rw [e, ← List.length_map (f := fun t : Thg => t.addr)]
  refine nodup_len ?_ hm fun z => ?_
  · have : Asc (l.map fun t => t.addr) := List.pairwise_map.2 r.up
    exact (this.nodup).sublist (List.Sublist.map _ List.filter_sublist)
  · rw [h z, List.mem_map]
    constructor
    · rintro ⟨t, ht, rfl⟩
      obtain ⟨h1, h2⟩ := List.mem_filter.1 ht
      obtain ⟨e1, e2, _⟩ := r.mark_at g h1 rfl
      exact ⟨e1, e2.trans h2⟩
    · rintro ⟨h1, h2⟩
      obtain ⟨t, ht, rfl⟩ := (r.mem g.ok z).1 h1
      obtain ⟨_, e2, _⟩ := r.mark_at g ht rfl
      exact ⟨t, List.mem_filter.2 ⟨ht, by simpa [← e2] using h2⟩, rfl⟩
end Go.Proofs.YtinehimleldkdaaGreatDoor

/- The program's marker and the document's own in memory, beside both allocators and whatever else the law holds. -/
namespace Go.Proofs.YtinehimleldkdaaGreatDoor
set_option maxRecDepth 100000
open Go.ChangeShapes Go.WideShapes Go.ChangeAt Go.RowKit Go.Maps

/-- None of these is one of those. -/
def Ds (A B : List Nat) : Prop := ∀ d ∈ A, d ∉ B
theorem Ds.new {A F F' : List Nat} {s : Nat} (h : Ds F A) (hA : ∀ d ∈ A, d < s) (hF : ∀ f ∈ F', f ∈ F ∨ s ≤ f) : Ds F' A := fun f hf ha => by
  rcases hF f hf with e | e
  · exact h f e ha
  · have := hA f ha; omega
theorem Ds.symm {A B : List Nat} (h : Ds A B) : Ds B A := fun d hd ha => h d ha hd

/-- w' is w but for what the blocks F hold, and for new blocks. -/
structure Trn (w w' : World) (F : List Nat) : Prop where
  os : w'.os = w.os
  tape : w'.tape = w.tape
  output : w'.output = w.output
  size : w.heap.size ≤ w'.heap.size
  block : ∀ k, k < w.heap.size → k ∉ F → w'.heap[k]? = w.heap[k]?
theorem Trn.of_G {w w' : World} {F : List Nat} (h : G w w') : Trn w w' F := ⟨h.os, h.tape, h.output, h.size, fun k hk _ => h.block k hk⟩
theorem Trn.below {w w' : World} {F : List Nat} {B : Nat} (h : Trn w w' F) (hB : B ≤ w.heap.size) (hF : ∀ f ∈ F, B ≤ f) : Below B w w' :=
  ⟨h.os, h.tape, h.output, h.size, fun k hk => h.block k (by omega) fun hf => by have := hF k hf; omega⟩
theorem Trn.kd {w w' : World} {F A : List Nat} (h : Trn w w' F) (hA : ∀ d ∈ A, d < w.heap.size) (hd : Ds A F) : Kd w w' A := fun d hd' => h.block d (hA d hd') (hd d hd')

section
variable {W w w' : World} {xl : Ld} {x : Rq} {al1 al2 a1' a2' : Al} {N N' : Nat} {E E' F : List Nat}
theorem Bo.all (h : Bo W w xl x al1 al2 N E) : ∀ e ∈ five xl ++ E, e < w.heap.size := by
  obtain ⟨r, cl, l, d⟩ := h.da
  exact fun e he => (d.ap e he).1
theorem Bo.loc (h : Bo W w xl x al1 al2 N E) (t : Trn w w' F) (hF : ∀ f ∈ F, f ∈ E) (h5 : Ds F (five xl)) (hB : ∀ f ∈ F, W.heap.size ≤ f) (hE : ∀ e ∈ E', e ∈ E ∨ w.heap.size ≤ e ∧ e < w'.heap.size) : Bo W w' xl x al1 al2 N E' := by
  have hb : Below W.heap.size W w' := h.below.trans (t.below h.below.size hB)
  have l0 := h.st.st.at_.lt0
  have l1 := h.st.st.at_.lt1 h.st.st.n8
  have l2 := h.st.st.at_.lt2 h.st.st.n8
  have l3 := h.st.lt1
  refine ⟨h.st.kp (D := five xl) (fun d hd => t.block d (h.all d (List.mem_append.2 (Or.inl hd))) fun hf => h5 d hf hd) (fun _ hd => hd) hb, ?_, fun e he => ?_⟩
  · obtain ⟨r, cl, l, d⟩ := h.da
    have off : ∀ d' ∈ F, ∀ k, (k = x.lb ∨ k = x.ub ∨ k = r.rb ∨ k = r.cb ∨ (∃ a, r.lo = some a ∧ k = a.block) ∨ ∃ m, m ∈ l ∧ k = m.wb) → k ≠ d' := by
      intro d' hd k hk e
      subst e
      obtain ⟨_, d1, d2, d3, d4, d5, d6⟩ := d.ap _ (List.mem_append.2 (Or.inr (hF _ hd)))
      rcases hk with e | e | e | e | ⟨a, ha, e⟩ | ⟨m, hm, e⟩
      · exact d1 e
      · exact d2 e
      · exact d3 e
      · exact d4 e
      · exact d5 a ha e
      · exact d6 m hm e
    have k := d.kept (w' := w') (fun k hk hf => t.block k hk fun hm => off k hm k hf rfl) t.size hb
    refine ⟨r, cl, l, ⟨k.ref, k.erb, k.ecb, k.c0, k.c1, k.us, k.fu, k.b0, k.b1, k.n0, k.ol, k.ou, k.rl, k.good, k.ln, k.u0, k.below, fun e he => ?_⟩⟩
    rcases List.mem_append.1 he with h1 | h1
    · exact k.ap e (List.mem_append.2 (Or.inl h1))
    · rcases hE e h1 with h2 | ⟨h2, h3⟩
      · exact k.ap e (List.mem_append.2 (Or.inr h2))
      · exact ⟨h3, by have := d.lt0; omega, by have := d.lt1; omega, by have := d.ref.h0; omega, by have := d.ref.h1; omega, fun a ha => by have := (d.ref.lf a ha).2.2.1; omega, fun m hm => by have := (d.ref.wd m hm).1.hi; omega⟩
  · rcases hE e he with h2 | ⟨h2, h3⟩
    · exact h.ap e h2
    · exact ⟨by omega, by omega, by omega⟩
end

/-- Where all lies. -/
structure Lc where
  xl : Ld
  x : Rq
  kb : Nat
  tb : Nat
  mb : Nat
  q : Nat
  rk : Nat
/-- What of that changes. -/
structure Lx where
  ao : Option Addr
  cap : Nat
  bs : List Nat
  to : Option Addr
  tc : Nat
  go : Option Addr
  gc : Nat
def Lc.f1 (L : Lc) (e : Lx) : List Nat := L.kb :: L.tb :: L.mb :: L.q :: (Gy.blk e.ao ++ e.bs)
def Lc.f2 (L : Lc) (e : Lx) : List Nat := L.rk :: (Gy.blk e.to ++ Gy.blk e.go)
/-- A marker with its allocator, plain. -/
structure Ms where
  al : Al
  T : List Hd.Shp
  g : List Int

structure PM (w : World) (B : Nat) (L : Lc) (e : Lx) (M : Ms) : Prop where
  c0 : w.cell? ⟨L.kb, 0, none⟩ = some (.pointer (some ⟨L.xl.d.ab, 0, none⟩))
  c1 : w.cell? ⟨L.kb, 1, none⟩ = some (.pointer (some ⟨L.tb, 0, none⟩))
  c2 : w.cell? ⟨L.kb, 2, none⟩ = some (.pointer (some ⟨L.q, 0, none⟩))
  tab : Hd.TabAt w B L.tb L.mb e.ao e.cap M.T
  que : Gy.QL w L.q e.bs M.g
  n0 : L.kb ∉ L.tb :: L.mb :: Gy.blk e.ao
  n1 : Ds (L.kb :: L.tb :: L.mb :: Gy.blk e.ao) (L.q :: e.bs)
structure DM (w : World) (B : Nat) (L : Lc) (e : Lx) (M : Ms) : Prop where
  c0 : w.cell? ⟨L.rk, 0, none⟩ = some (.pointer (some ⟨L.x.rb, 0, none⟩))
  c1 : w.cell? ⟨L.rk, 1, none⟩ = some (.slice e.to M.T.length e.tc)
  c2 : w.cell? ⟨L.rk, 2, none⟩ = some (.slice e.go M.g.length e.gc)
  fz : ∀ i, w.frozen? ⟨L.rk, i, none⟩ = false
  row : w.ownsRow B 75 3 (.slice e.to M.T.length e.tc) M.T.length (Hd.rowOf M.T)
  grey : Gy.RowW w B e.go e.gc M.g
  n0 : L.rk ∉ Gy.blk e.to ++ Gy.blk e.go
  n1 : Ds (Gy.blk e.to) (Gy.blk e.go)

section
variable {W w w' : World} {L : Lc} {e : Lx} {M M1 M2 : Ms} {N N' B : Nat} {E E' F : List Nat}
theorem blk_some {ao : Option Addr} {a : Addr} (h : ao = some a) : a.block ∈ Gy.blk ao := by subst h; simp [Gy.blk]
theorem PM.kept (h : PM w B L e M) (k : Kd w w' (L.f1 e)) : PM w' B L e M := by
  have k0 := k L.kb (by simp [Lc.f1])
  refine ⟨(World.cell?_of_block (a := ⟨L.kb, 0, none⟩) k0).trans h.c0, (World.cell?_of_block (a := ⟨L.kb, 1, none⟩) k0).trans h.c1, (World.cell?_of_block (a := ⟨L.kb, 2, none⟩) k0).trans h.c2,
    h.tab.kept (k _ (by simp [Lc.f1])) (k _ (by simp [Lc.f1])) (fun a ha => k _ ?_), h.que.kept (k _ (by simp [Lc.f1])) (fun b hb => k _ (by simp [Lc.f1, hb])), h.n0, h.n1⟩
  have := blk_some ha
  simp [Lc.f1, this]
theorem ownsRow_kept {T : TypeId} {s n : Nat} {ao : Option Addr} {cap : Nat} {xs : List Value} (h : w.ownsRow B T s (.slice ao n cap) n xs) (k : Kd w w' (Gy.blk ao)) : w'.ownsRow B T s (.slice ao n cap) n xs := by
  refine ⟨h.1, ?_⟩
  rcases h.2 with hn | ⟨g, c, cur, e, hb, hg, rest⟩
  · exact Or.inl hn
  · refine Or.inr ⟨g, c, cur, e, hb, ?_, rest⟩
    have : ao = some ⟨g, 0, none⟩ := by injection e
    exact (k _ (blk_some this)).trans hg
theorem DM.kept (h : DM w B L e M) (k : Kd w w' (L.f2 e)) : DM w' B L e M := by
  have k0 := k L.rk (by simp [Lc.f2])
  exact ⟨(World.cell?_of_block (a := ⟨L.rk, 0, none⟩) k0).trans h.c0, (World.cell?_of_block (a := ⟨L.rk, 1, none⟩) k0).trans h.c1, (World.cell?_of_block (a := ⟨L.rk, 2, none⟩) k0).trans h.c2, fun i => (World.frozen?_of_block (a := ⟨L.rk, i, none⟩) k0).trans (h.fz i),
    ownsRow_kept h.row fun d hd => k d (by simp [Lc.f2, hd]), h.grey.kept fun d hd => k d (by simp [Lc.f2, hd]), h.n0, h.n1⟩

/-- All that a law knows: E, the blocks beside. -/
structure MSx (W w : World) (L : Lc) (e : Lx) (M1 M2 : Ms) (N : Nat) (E : List Nat) : Prop where
  bo : Bo W w L.xl L.x M1.al M2.al N (L.f1 e ++ L.f2 e ++ E)
  pm : PM w W.heap.size L e M1
  dm : DM w W.heap.size L e M2
  d5 : Ds (L.f1 e ++ L.f2 e ++ E) (five L.xl)
  d2 : Ds (L.f1 e) (L.f2 e)
  d3 : Ds (L.f1 e ++ L.f2 e) E
  lo : ∀ f ∈ L.f1 e ++ L.f2 e ++ E, W.heap.size ≤ f
def MS (W w : World) (L : Lc) (M1 M2 : Ms) (N : Nat) (E : List Nat) : Prop := ∃ e, MSx W w L e M1 M2 N E

theorem MSx.lt (h : MSx W w L e M1 M2 N E) : ∀ f ∈ L.f1 e ++ L.f2 e ++ E, f < w.heap.size := h.bo.lt
theorem MSx.below (h : MSx W w L e M1 M2 N E) : Below W.heap.size W w := h.bo.below
theorem MS.below (h : MS W w L M1 M2 N E) : Below W.heap.size W w := by obtain ⟨e, h⟩ := h; exact h.below
theorem MS.lt (h : MS W w L M1 M2 N E) : ∀ f ∈ E, f < w.heap.size := by obtain ⟨e, h⟩ := h; exact fun f hf => h.lt f (by simp [hf])
theorem mem3 {A B C : List Nat} {d : Nat} : d ∈ A ++ B ++ C ↔ d ∈ A ∨ d ∈ B ∨ d ∈ C := by simp
/-- Blocks beside are turned, new ones made. -/
theorem MSx.loc (h : MSx W w L e M1 M2 N E) (t : Trn w w' F) (hF : ∀ f ∈ F, f ∈ E) (hE : ∀ d ∈ E', d ∈ E ∨ w.heap.size ≤ d ∧ d < w'.heap.size) : MSx W w' L e M1 M2 N E' := by
  have hs := h.below.size
  have hall : ∀ f ∈ F, f ∈ L.f1 e ++ L.f2 e ++ E := fun f hf => mem3.2 (Or.inr (Or.inr (hF f hf)))
  have hnew : ∀ d ∈ L.f1 e ++ L.f2 e ++ E', d ∈ L.f1 e ++ L.f2 e ++ E ∨ w.heap.size ≤ d ∧ d < w'.heap.size := by
    intro d hd
    rcases mem3.1 hd with h1 | h1 | h1
    · exact Or.inl (mem3.2 (Or.inl h1))
    · exact Or.inl (mem3.2 (Or.inr (Or.inl h1)))
    · rcases hE d h1 with h2 | h2
      · exact Or.inl (mem3.2 (Or.inr (Or.inr h2)))
      · exact Or.inr h2
  refine ⟨h.bo.loc t hall (fun f hf => h.d5 f (hall f hf)) (fun f hf => h.lo f (hall f hf)) hnew, h.pm.kept fun d hd => ?_, h.dm.kept fun d hd => ?_, fun d hd h5 => ?_, h.d2, fun d hd he => ?_, fun d hd => ?_⟩
  · exact t.block d (h.lt d (mem3.2 (Or.inl hd))) fun hf => h.d3 d (List.mem_append.2 (Or.inl hd)) (hF d hf)
  · exact t.block d (h.lt d (mem3.2 (Or.inr (Or.inl hd)))) fun hf => h.d3 d (List.mem_append.2 (Or.inr hd)) (hF d hf)
  · rcases hnew d hd with h1 | ⟨h1, _⟩
    · exact h.d5 d h1 h5
    · have := h.bo.all d (List.mem_append.2 (Or.inl h5)); omega
  · rcases hE d he with h1 | ⟨h1, _⟩
    · exact h.d3 d hd h1
    · have := h.lt d (mem3.2 (by rcases List.mem_append.1 hd with h2 | h2 <;> simp [h2])); omega
  · rcases hnew d hd with h1 | ⟨h1, _⟩
    · exact h.lo d h1
    · omega
theorem MS.loc (h : MS W w L M1 M2 N E) (t : Trn w w' F) (hF : ∀ f ∈ F, f ∈ E) (hE : ∀ d ∈ E', d ∈ E ∨ w.heap.size ≤ d ∧ d < w'.heap.size) : MS W w' L M1 M2 N E' := by
  obtain ⟨e, h⟩ := h; exact ⟨e, h.loc t hF hE⟩
theorem MS.gr (h : MS W w L M1 M2 N E) (g : G w w') : MS W w' L M1 M2 N E := h.loc (F := []) (Trn.of_G g) (fun _ hf => by cases hf) fun _ hd => Or.inl hd
theorem MS.grE (h : MS W w L M1 M2 N E) (g : G w w') (hE : ∀ d ∈ E', d ∈ E ∨ w.heap.size ≤ d ∧ d < w'.heap.size) : MS W w' L M1 M2 N E' := h.loc (F := []) (Trn.of_G g) (fun _ hf => by cases hf) hE
theorem MS.sub (h : MS W w L M1 M2 N E) (hE : ∀ d ∈ E', d ∈ E) : MS W w L M1 M2 N E' := h.grE (G.refl w) fun d hd => Or.inl (hE d hd)
theorem MS.kd (h : MS W w L M1 M2 N E) (g : G w w') : Kd w w' E := fun d hd => g.block d (h.lt d hd)

/-- Behind a call of an allocator's or an arena's. -/
theorem MSx.al (h : MSx W w L e M1 M2 N E) {a1 a2 : Al} (b : Bo W w' L.xl L.x a1 a2 N' (L.f1 e ++ L.f2 e ++ E)) (k : Kd w w' (L.f1 e ++ L.f2 e ++ E)) : MSx W w' L e ⟨a1, M1.T, M1.g⟩ ⟨a2, M2.T, M2.g⟩ N' E := by
  have p := h.pm.kept (w' := w') fun d hd => k d (mem3.2 (Or.inl hd))
  have q := h.dm.kept (w' := w') fun d hd => k d (mem3.2 (Or.inr (Or.inl hd)))
  exact ⟨b, ⟨p.c0, p.c1, p.c2, p.tab, p.que, p.n0, p.n1⟩, ⟨q.c0, q.c1, q.c2, q.fz, q.row, q.grey, q.n0, q.n1⟩, h.d5, h.d2, h.d3, h.lo⟩
theorem MSx.kd (k : Kd w w' (L.f1 e ++ L.f2 e ++ E)) : Kd w w' E := fun d hd => k d (mem3.2 (Or.inr (Or.inr hd)))

/-- Behind a call that turns blocks of the program's marker. -/
theorem MSx.one (h : MSx W w L e M1 M2 N E) {e' : Lx} {M1' : Ms} (t : Trn w w' (L.f1 e)) (hf : ∀ d ∈ L.f1 e', d ∈ L.f1 e ∨ w.heap.size ≤ d) (h2 : L.f2 e' = L.f2 e) (hM : M1'.al = M1.al)
    (p : PM w' W.heap.size L e' M1') (hlt : ∀ d ∈ L.f1 e', d < w'.heap.size) (hd : ∀ {w}, DM w W.heap.size L e M2 → DM w W.heap.size L e' M2) : MSx W w' L e' M1' M2 N E ∧ Kd w w' E := by
  have hs := h.below.size
  have hF : ∀ f ∈ L.f1 e, f ∈ L.f1 e ++ L.f2 e ++ E := fun f hf => mem3.2 (Or.inl hf)
  have hnew : ∀ d ∈ L.f1 e' ++ L.f2 e' ++ E, d ∈ L.f1 e ++ L.f2 e ++ E ∨ w.heap.size ≤ d ∧ d < w'.heap.size := by
    intro d hd
    rcases mem3.1 hd with h1 | h1 | h1
    · rcases hf d h1 with h3 | h3
      · exact Or.inl (mem3.2 (Or.inl h3))
      · exact Or.inr ⟨h3, hlt d h1⟩
    · rw [h2] at h1; exact Or.inl (mem3.2 (Or.inr (Or.inl h1)))
    · exact Or.inl (mem3.2 (Or.inr (Or.inr h1)))
  have k2 : Kd w w' (L.f2 e) := fun d hd => t.block d (h.lt d (mem3.2 (Or.inr (Or.inl hd)))) fun hf => h.d2 d hf hd
  have kE : Kd w w' E := fun d hd => t.block d (h.lt d (mem3.2 (Or.inr (Or.inr hd)))) fun hf => h.d3 d (List.mem_append.2 (Or.inl hf)) hd
  refine ⟨⟨by rw [hM]; exact h.bo.loc t hF (fun f hf => h.d5 f (hF f hf)) (fun f hf => h.lo f (hF f hf)) hnew, p, hd (h.dm.kept k2), fun d hd h5 => ?_, fun d hd hd2 => ?_, fun d hd he => ?_, fun d hd => ?_⟩, kE⟩
  · rcases hnew d hd with h1 | ⟨h1, _⟩
    · exact h.d5 d h1 h5
    · have := h.bo.all d (List.mem_append.2 (Or.inl h5)); omega
  · rw [h2] at hd2
    rcases hf d hd with h1 | h1
    · exact h.d2 d h1 hd2
    · have := h.lt d (mem3.2 (Or.inr (Or.inl hd2))); omega
  · rcases List.mem_append.1 hd with h1 | h1
    · rcases hf d h1 with h3 | h3
      · exact h.d3 d (List.mem_append.2 (Or.inl h3)) he
      · have := h.lt d (mem3.2 (Or.inr (Or.inr he))); omega
    · rw [h2] at h1; exact h.d3 d (List.mem_append.2 (Or.inr h1)) he
  · rcases hnew d hd with h1 | ⟨h1, _⟩
    · exact h.lo d h1
    · omega
/-- Behind a call that turns blocks of the document's marker. -/
theorem MSx.two (h : MSx W w L e M1 M2 N E) {e' : Lx} {M2' : Ms} (t : Trn w w' (L.f2 e)) (hf : ∀ d ∈ L.f2 e', d ∈ L.f2 e ∨ w.heap.size ≤ d) (h1' : L.f1 e' = L.f1 e) (hM : M2'.al = M2.al)
    (p : DM w' W.heap.size L e' M2') (hlt : ∀ d ∈ L.f2 e', d < w'.heap.size) (hd : ∀ {w}, PM w W.heap.size L e M1 → PM w W.heap.size L e' M1) : MSx W w' L e' M1 M2' N E ∧ Kd w w' E := by
  have hs := h.below.size
  have hF : ∀ f ∈ L.f2 e, f ∈ L.f1 e ++ L.f2 e ++ E := fun f hf => mem3.2 (Or.inr (Or.inl hf))
  have hnew : ∀ d ∈ L.f1 e' ++ L.f2 e' ++ E, d ∈ L.f1 e ++ L.f2 e ++ E ∨ w.heap.size ≤ d ∧ d < w'.heap.size := by
    intro d hd
    rcases mem3.1 hd with h1 | h1 | h1
    · rw [h1'] at h1; exact Or.inl (mem3.2 (Or.inl h1))
    · rcases hf d h1 with h3 | h3
      · exact Or.inl (mem3.2 (Or.inr (Or.inl h3)))
      · exact Or.inr ⟨h3, hlt d h1⟩
    · exact Or.inl (mem3.2 (Or.inr (Or.inr h1)))
  have k1 : Kd w w' (L.f1 e) := fun d hd => t.block d (h.lt d (mem3.2 (Or.inl hd))) fun hf => h.d2 d hd hf
  have kE : Kd w w' E := fun d hd => t.block d (h.lt d (mem3.2 (Or.inr (Or.inr hd)))) fun hf => h.d3 d (List.mem_append.2 (Or.inr hf)) hd
  refine ⟨⟨by rw [hM]; exact h.bo.loc t hF (fun f hf => h.d5 f (hF f hf)) (fun f hf => h.lo f (hF f hf)) hnew, hd (h.pm.kept k1), p, fun d hd h5 => ?_, fun d hd hd2 => ?_, fun d hd he => ?_, fun d hd => ?_⟩, kE⟩
  · rcases hnew d hd with h1 | ⟨h1, _⟩
    · exact h.d5 d h1 h5
    · have := h.bo.all d (List.mem_append.2 (Or.inl h5)); omega
  · rw [h1'] at hd
    rcases hf d hd2 with h1 | h1
    · exact h.d2 d hd h1
    · have := h.lt d (mem3.2 (Or.inl hd)); omega
  · rcases List.mem_append.1 hd with h1 | h1
    · rw [h1'] at h1; exact h.d3 d (List.mem_append.2 (Or.inl h1)) he
    · rcases hf d h1 with h3 | h3
      · exact h.d3 d (List.mem_append.2 (Or.inr h3)) he
      · have := h.lt d (mem3.2 (Or.inr (Or.inr he))); omega
  · rcases hnew d hd with h1 | ⟨h1, _⟩
    · exact h.lo d h1
    · omega

/-- The queue has changed. -/
theorem MSx.que (h : MSx W w L e M1 M2 N E) {ys : List Int} (q : Gy.Left w w' L.q e.bs ys) : MS W w' L ⟨M1.al, M1.T, ys⟩ M2 N E ∧ Kd w w' E := by
  obtain ⟨bs', ql, t, hb⟩ := q
  have hs : w.heap.size ≤ w'.heap.size := t.size
  have kf : ∀ d ∈ L.kb :: L.tb :: L.mb :: Gy.blk e.ao, w'.heap[d]? = w.heap[d]? := fun d hd => by
    have hn := h.pm.n1 d hd
    have hl : d < w.heap.size := h.lt d (mem3.2 (Or.inl (by simp [Lc.f1] at hd ⊢; rcases hd with e | e | e | e <;> simp [e])))
    simp at hn
    exact t.block d hl hn.1 hn.2
  have k0 := kf L.kb (by simp)
  have tb' := h.pm.tab.kept (kf _ (by simp)) (kf _ (by simp)) (fun a ha => kf _ (by have := blk_some ha; simp [this]))
  have lt' : ∀ d ∈ L.kb :: L.tb :: L.mb :: Gy.blk e.ao, d < w.heap.size := fun d hd => h.lt d (mem3.2 (Or.inl (by simp [Lc.f1] at hd ⊢; rcases hd with e | e | e | e <;> simp [e])))
  have r := h.one (e' := { e with bs := bs' }) (M1' := ⟨M1.al, M1.T, ys⟩) ⟨t.os, t.tape, t.output, t.size, fun k hk hf => t.block k hk (by simp [Lc.f1] at hf; exact hf.2.2.2.1) (by simp [Lc.f1] at hf; exact hf.2.2.2.2.2)⟩
    (fun d hd => by
      simp [Lc.f1] at hd ⊢
      rcases hd with e1 | e1 | e1 | e1 | e1 | e1
      · simp [e1]
      · simp [e1]
      · simp [e1]
      · simp [e1]
      · simp [e1]
      · rcases hb d e1 with e2 | e2
        · simp [e2]
        · exact Or.inr e2) rfl rfl
    ⟨(World.cell?_of_block (a := ⟨L.kb, 0, none⟩) k0).trans h.pm.c0, (World.cell?_of_block (a := ⟨L.kb, 1, none⟩) k0).trans h.pm.c1, (World.cell?_of_block (a := ⟨L.kb, 2, none⟩) k0).trans h.pm.c2, tb', ql, h.pm.n0, fun d hd hq => by
      have hn := h.pm.n1 d hd
      have := lt' d hd
      simp at hn hq
      rcases hq with e1 | e1
      · exact hn.1 e1
      · rcases hb d e1 with e2 | e2
        · exact hn.2 e2
        · omega⟩
    (fun d hd => by
      simp only [Lc.f1, List.mem_cons, List.mem_append] at hd
      rcases hd with e1 | e1 | e1 | e1 | e1 | e1
      · exact Nat.lt_of_lt_of_le (lt' d (by simp [e1])) hs
      · exact Nat.lt_of_lt_of_le (lt' d (by simp [e1])) hs
      · exact Nat.lt_of_lt_of_le (lt' d (by simp [e1])) hs
      · rw [e1]; exact ql.lt
      · exact Nat.lt_of_lt_of_le (lt' d (by simp [e1])) hs
      · exact ql.ltb d e1)
    (fun q => ⟨q.c0, q.c1, q.c2, q.fz, q.row, q.grey, q.n0, q.n1⟩)
  exact ⟨⟨_, r.1⟩, r.2⟩
end
end Go.Proofs.YtinehimleldkdaaGreatDoor

/- The contracts of package mark: New, Shade, Left; what an object is. -/
namespace Go.Proofs.YtinehimleldkdaaGreatDoor
set_option maxRecDepth 100000
open Go.ChangeShapes Go.WideShapes Go.ChangeAt Go.RowKit Go.Maps

def Ms.shade (M : Ms) (x : Int) : Ms := ⟨⟨M.al.a.markA x, M.al.u⟩, M.T, if M.al.a.markB x = true then M.g ++ [x] else M.g⟩
def tabOf (T : List Hd.Shp) : List (Int × Nat) := T.map fun s => (s.k, s.m)
def Ms.mr (M : Ms) : Mr := ⟨M.al.a, tabOf M.T, M.g⟩
def Ms.flds (M : Ms) (x : Int) : List Int := M.al.a.flds (tabOf M.T) x
def Ms.shades (M : Ms) : List Int → Ms
  | [] => M
  | y :: r => Ms.shades (M.shade y) r
theorem Ms.shade_mr (M : Ms) (x : Int) : (M.shade x).mr = M.mr.shade x := by
  unfold Ms.mr Mr.shade Ms.shade
  simp only
  split
  · rfl
  · rename_i h
    rw [show M.al.a.markA x = M.al.a by unfold Ab.markA; rw [if_neg h]]
theorem Ms.shades_mr : ∀ (l : List Int) (M : Ms), (M.shades l).mr = M.mr.shades l
  | [], _ => rfl
  | y :: r, M => by rw [Ms.shades, Ms.shades_mr r, Ms.shade_mr]; rfl

theorem is_gw {a : Ab} (g : a.Good) {x : Int} (h : a.is x = true) : 2 ≤ gw (a.clsI (gs x)) ∧ gw (a.clsI (gs x)) ≤ 64 := by
  obtain ⟨s, p, h1, h2, h3, h4, ex, e1, e2⟩ := where_is g h
  rw [e1, a.clsI_at h1 h2]
  rcases gw_gp (a.cls s) with ⟨_, e⟩ | ⟨_, e3, e4, _⟩ <;> omega

/-- An object: its shape and how many words it has; no words, if none begins there. -/
def Ms.obj (M : Ms) (x : Int) : Hd.Shp × Nat :=
  if M.al.a.is x = true ∧ Hd.uokB (M.al.a.wd x) = true ∧ Hd.up0 (M.al.a.wd x) ≤ gw (M.al.a.clsI (gs x)) then
    match M.T[(Hd.up2 (M.al.a.wd x)).toNat]? with
    | some s => (s, (Hd.up0 (M.al.a.wd x)).toNat)
    | none => (⟨0, 0, 0⟩, 0)
  else (⟨0, 0, 0⟩, 0)
theorem Ms.flds_obj (M : Ms) (x : Int) : M.flds x = fldL (M.obj x).1.k (M.obj x).1.m (M.obj x).2 fun i => M.al.a.wd (x + i) := by
  unfold Ms.flds Ab.flds Ms.obj
  split
  · rw [tabOf, List.getElem?_map]
    cases M.T[(Hd.up2 (M.al.a.wd x)).toNat]? <;> rfl
  · rfl

section
variable {W w w' : World} {L : Lc} {e : Lx} {M M1 M2 : Ms} {N N' B : Nat} {E E' F : List Nat}
theorem MSx.gr (h : MSx W w L e M1 M2 N E) (g : G w w') : MSx W w' L e M1 M2 N E := h.loc (F := []) (Trn.of_G g) (fun _ hf => by cases hf) fun _ hd => Or.inl hd

set_option maxHeartbeats 400000 in
theorem marknew_raw (w : World) (ab tb : Nat) : Calls Tryz.prog 29 #[.pointer (some ⟨ab, 0, none⟩), .pointer (some ⟨tb, 0, none⟩)] w fun r w' =>
    r = .returned (.pointer (some ⟨w.heap.size + 1, 0, none⟩)) ∧ w' = (w.alloc (.cells #[.pointer none, .pointer none, .int .i64 0, .int .i64 0] 136)).alloc (.cells #[.pointer (some ⟨ab, 0, none⟩), .pointer (some ⟨tb, 0, none⟩), .pointer (some ⟨w.heap.size, 0, none⟩)] 82) := by
  go_enter Tryz.func29, Tryz.ntmps29
  go_wp2_with (go_at_call 60; refine (Gy.new_raw _).mono ?_; rintro e w' ⟨rfl, rfl⟩)
  go_ret
  exact ⟨rfl, rfl⟩

set_option maxHeartbeats 800000 in
theorem m_shade (h : Hid (MS W w L M1 M2 N E)) (hn : M1.g.length ≤ 900000) (x : Int) :
    Calls Tryz.prog 11 #[.pointer (some ⟨L.kb, 0, none⟩), .int .i64 x] w fun r w' => r = .returned (.bool (M1.al.a.markB x)) ∧ MS W w' L (M1.shade x) M2 N E ∧ Kd w w' E := by
  obtain ⟨e, hx⟩ := unhide h
  clear h
  have c0 := hx.pm.c0
  have C := hide (bp_mark (hide hx.bo) x)
  cases hb : M1.al.a.markB x
  · have eM : M1.shade x = ⟨⟨M1.al.a.markA x, M1.al.u⟩, M1.T, M1.g⟩ := by unfold Ms.shade; rw [hb]; rfl
    rw [eM]
    rw [hb] at C
    have H := hide hx
    clear hx eM
    go_enter Tryz.func11, Tryz.ntmps11
    go_wp2_with fail
    refine (unhide C).mono ?_
    rintro r w1 ⟨rfl, B1, K1⟩
    have R : Hid (MS W w1 L ⟨⟨M1.al.a.markA x, M1.al.u⟩, M1.T, M1.g⟩ M2 N E ∧ Kd w w1 E) := hide ⟨⟨e, (unhide H).al B1 K1⟩, MSx.kd K1⟩
    clear B1 K1 C H
    go_wp2_with fail
    go_ret
    exact ⟨rfl, unhide R⟩
  · have eM : M1.shade x = ⟨⟨M1.al.a.markA x, M1.al.u⟩, M1.T, M1.g ++ [x]⟩ := by unfold Ms.shade; rw [hb]; rfl
    rw [eM]
    rw [hb] at C
    have H := hide hx
    clear hx eM
    go_enter Tryz.func11, Tryz.ntmps11
    go_wp2_with fail
    refine (unhide C).mono ?_
    rintro r w1 ⟨rfl, B1, K1⟩
    have X1 := (unhide H).al B1 K1
    have c2 := X1.pm.c2
    have KE : Hid (Kd w w1 E) := hide (MSx.kd K1)
    replace X1 := hide X1
    clear B1 K1 C H
    go_wp2_with fail
    refine (Gy.q_add (unhide X1).pm.que hn x).mono ?_
    rintro r w2 ⟨rfl, Q⟩
    have R := hide ((unhide X1).que Q)
    clear Q X1
    go_wp2_with fail
    go_ret
    exact ⟨rfl, (unhide R).1, (unhide KE).trans (unhide R).2⟩

theorem m_left (h : Hid (MS W w L M1 M2 N E)) : Calls Tryz.prog 14 #[.pointer (some ⟨L.kb, 0, none⟩)] w fun r w' => r = .returned (.int .i64 (M1.g.length : Int)) ∧ w' = w := by
  obtain ⟨e, hx⟩ := unhide h
  have c2 := hx.pm.c2
  have C := hide (Gy.q_len hx.pm.que)
  generalize (M1.g.length : Int) = n at *
  clear h hx
  go_enter Tryz.func14, Tryz.ntmps14
  go_wp2_with fail
  refine (unhide C).mono ?_
  rintro r w1 ⟨rfl, rfl⟩
  go_wp2_with fail
  go_ret
  exact ⟨rfl, rfl⟩

/-! ### what an object is -/
theorem mread_yes {a : Ab} {x i : Int} (h : a.is x = true) (h0 : 0 ≤ i) (h1 : i < gw (a.clsI (gs x))) : a.readE x i = 0 ∧ a.readV x i = a.wd (x + i) := by
  have : a.inW x i = true := by unfold Ab.inW; simp [h, h0, h1]
  unfold Ab.readE Ab.readV
  rw [if_pos this, if_pos this]
  exact ⟨rfl, rfl⟩
theorem mread_no {a : Ab} {x i : Int} (h : ¬ (a.is x = true ∧ 0 ≤ i ∧ i < gw (a.clsI (gs x)))) : a.readE x i = 1 ∧ a.readV x i = 0 := by
  have : ¬ a.inW x i = true := by
    unfold Ab.inW
    simp only [Bool.and_eq_true, decide_eq_true_eq]
    rintro ⟨⟨h1, h2⟩, h3⟩
    exact h ⟨h1, h2, h3⟩
  unfold Ab.readE Ab.readV
  rw [if_neg this, if_neg this]
  exact ⟨rfl, rfl⟩

end
end Go.Proofs.YtinehimleldkdaaGreatDoor

/- A variable of three cells. -/
namespace Go.Proofs.YtinehimleldkdaaGreatDoor
set_option maxRecDepth 100000
open Go.ChangeShapes Go.WideShapes Go.ChangeAt Go.RowKit Go.Maps

theorem G3 {w w1 : World} (g : G w w1) {b : Nat} (hb : w.heap.size ≤ b) (x y z : Value) : G w (((w1.setCell ⟨b, 0, none⟩ x).setCell ⟨b, 1, none⟩ y).setCell ⟨b, 2, none⟩ z) := ((g.setCell hb x).setCell hb y).setCell hb z
/-- A variable of three cells. -/
structure Rv (w : World) (b : Nat) (x y z : Value) : Prop where
  c0 : w.cell? ⟨b, 0, none⟩ = some x
  c1 : w.cell? ⟨b, 1, none⟩ = some y
  c2 : w.cell? ⟨b, 2, none⟩ = some z
  f : ∀ i, w.frozen? ⟨b, i, none⟩ = false
theorem Rv.new (w : World) (x y z : Value) (t : TypeId) : Rv (w.alloc (.cells #[x, y, z] t)) w.heap.size x y z :=
  ⟨World.cell?_alloc_new w _ _ 0, World.cell?_alloc_new w _ _ 1, World.cell?_alloc_new w _ _ 2, fun i => Gy.fz_new w _ _ i⟩
theorem Rv.lt {w : World} {b : Nat} {x y z : Value} (h : Rv w b x y z) : b < w.heap.size := World.block_lt_of_cell? w _ h.c0
theorem Rv.gr {w w' : World} {b : Nat} {x y z : Value} (h : Rv w b x y z) (g : G w w') : Rv w' b x y z :=
  ⟨g.cell h.c0, g.cell h.c1, g.cell h.c2, fun i => (World.frozen?_of_block (a := ⟨b, i, none⟩) (g.block b h.lt)).trans (h.f i)⟩

theorem set0 {w : World} {b : Nat} {u x : Value} (h : w.cell? ⟨b, 0, none⟩ = some u) : (w.setCell ⟨b, 0, none⟩ x).cell? ⟨b, 0, none⟩ = some x := cell_same _ h
theorem set1 {w : World} {b : Nat} {u x y : Value} (h : w.cell? ⟨b, 1, none⟩ = some u) : ((w.setCell ⟨b, 0, none⟩ x).setCell ⟨b, 1, none⟩ y).cell? ⟨b, 1, none⟩ = some y :=
  cell_same (u := u) _ ((cell_other _ (Or.inr (by decide))).trans h)
theorem set2 {w : World} {b : Nat} {u x y z : Value} (h : w.cell? ⟨b, 2, none⟩ = some u) : (((w.setCell ⟨b, 0, none⟩ x).setCell ⟨b, 1, none⟩ y).setCell ⟨b, 2, none⟩ z).cell? ⟨b, 2, none⟩ = some z :=
  cell_same (u := u) _ ((cell_other _ (Or.inr (by decide))).trans ((cell_other _ (Or.inr (by decide))).trans h))
theorem Rv.three {w : World} {b : Nat} {u0 u1 u2 : Value} (h : Rv w b u0 u1 u2) (x y z : Value) : Rv (((w.setCell ⟨b, 0, none⟩ x).setCell ⟨b, 1, none⟩ y).setCell ⟨b, 2, none⟩ z) b x y z :=
  ⟨(cell_other _ (Or.inr (by decide))).trans ((cell_other _ (Or.inr (by decide))).trans (set0 h.c0)), (cell_other _ (Or.inr (by decide))).trans (set1 h.c1), set2 h.c2, fun i => by rw [World.frozen?_setCell, World.frozen?_setCell, World.frozen?_setCell]; exact h.f i⟩

theorem Rv.other {w : World} {b b' : Nat} {u0 u1 u2 : Value} (h : Rv w b u0 u1 u2) (hb : b ≠ b') (x y z : Value) : Rv (((w.setCell ⟨b', 0, none⟩ x).setCell ⟨b', 1, none⟩ y).setCell ⟨b', 2, none⟩ z) b u0 u1 u2 := by
  have k : ∀ i, (((w.setCell ⟨b', 0, none⟩ x).setCell ⟨b', 1, none⟩ y).setCell ⟨b', 2, none⟩ z).cell? ⟨b, i, none⟩ = w.cell? ⟨b, i, none⟩ := fun i => by
    rw [cell_other _ (Or.inl hb), cell_other _ (Or.inl hb), cell_other _ (Or.inl hb)]
  exact ⟨(k 0).trans h.c0, (k 1).trans h.c1, (k 2).trans h.c2, fun i => by rw [World.frozen?_setCell, World.frozen?_setCell, World.frozen?_setCell]; exact h.f i⟩
end Go.Proofs.YtinehimleldkdaaGreatDoor

/- The contract of the document's own Number. -/
namespace Go.Proofs.YtinehimleldkdaaGreatDoor
set_option maxRecDepth 100000
open Go.ChangeShapes Go.WideShapes Go.ChangeAt Go.RowKit Go.Maps Go.Deep

theorem info_rshape : (Tryz.prog.info? 75).map (fun i => (i.zero, i.size, i.bytes)) = some (some (.agg #[.int .i64 0, .int .i64 0, .int .u64 0]), 3, 24) := by kernel_rfl
theorem shp_ext' {t s : Hd.Shp} (h0 : t.k = s.k) (h1 : t.f = s.f) (h2 : t.m = s.m) : t = s := Prod.ext h0 (Prod.ext h1 h2)
theorem shp_ne' {t s : Hd.Shp} (h : t ≠ s) : (t.k == s.k) = false ∨ (t.k = s.k ∧ (t.f == s.f) = false) ∨ (t.k = s.k ∧ t.f = s.f ∧ ((t.m : Int) == (s.m : Int)) = false) := by
  by_cases h0 : t.k = s.k
  · by_cases h1 : t.f = s.f
    · refine Or.inr (Or.inr ⟨h0, h1, ?_⟩)
      rw [beq_eq_false_iff_ne]
      intro e
      exact h (shp_ext' h0 h1 (by omega))
    · exact Or.inr (Or.inl ⟨h0, by simpa using h1⟩)
  · exact Or.inl (by simpa using h0)
theorem rrow_cells {w : World} {B : Nat} {T : TypeId} {l : List Hd.Shp} {g n cap : Nat} (h : w.ownsRow B T 3 (.slice (some ⟨g, 0, none⟩) n cap) n (Hd.rowOf l)) {i : Nat} {s : Hd.Shp} (hi : l[i]? = some s) :
    w.cell? ⟨g, i * 3, none⟩ = some (.int .i64 s.k) ∧ w.cell? ⟨g, i * 3 + 1, none⟩ = some (.int .i64 s.f) ∧ w.cell? ⟨g, i * 3 + 2, none⟩ = some (.int .u64 (s.m : Int)) := by
  have hc := h.cells (g := g) rfl
  have e0 := hc (i * 3 + 0) _ ((Hd.rowOf_get l i s hi 0 (by omega)).trans rfl)
  have e1 := hc (i * 3 + 1) _ ((Hd.rowOf_get l i s hi 1 (by omega)).trans rfl)
  have e2 := hc (i * 3 + 2) _ ((Hd.rowOf_get l i s hi 2 (by omega)).trans rfl)
  rw [Addr.add_lit] at e0 e1 e2
  simp only [Nat.zero_add, Nat.add_zero] at e0 e1 e2
  exact ⟨e0, e1, e2⟩

/-- What the call leaves. -/
structure NumD (w w' : World) (B rk n : Nat) (to : Option Addr) (g cap : Nat) (xs : List Value) : Prop where
  c1 : w'.cell? ⟨rk, 1, none⟩ = some (.slice (some ⟨g, 0, none⟩) (n + 1) cap)
  row : w'.ownsRow B 75 3 (.slice (some ⟨g, 0, none⟩) (n + 1) cap) (n + 1) xs
  os : w'.os = w.os
  tape : w'.tape = w.tape
  output : w'.output = w.output
  size : w.heap.size ≤ w'.heap.size
  block : ∀ k, k < w.heap.size → k ≠ rk → k ∉ Gy.blk to → w'.heap[k]? = w.heap[k]?
  at_ : to = some ⟨g, 0, none⟩ ∨ w.heap.size ≤ g
  oth : ∀ i, i ≠ 1 → w'.cell? ⟨rk, i, none⟩ = w.cell? ⟨rk, i, none⟩
  fz : ∀ i, w'.frozen? ⟨rk, i, none⟩ = w.frozen? ⟨rk, i, none⟩

theorem ownBlock_blk {to : Option Addr} {n tc k : Nat} (h : some k = Value.ownBlock (.slice to n tc)) : k ∈ Gy.blk to := by
  cases to with
  | none => simp [Value.ownBlock] at h
  | some a => simp [Value.ownBlock] at h; simp [Gy.blk, h]

set_option maxHeartbeats 2000000 in
theorem dnum_core (w : World) (B rk n tc : Nat) (to : Option Addr) (T : List Hd.Shp) (s : Hd.Shp) (hn : Hid (T.length = n)) (hn5 : n ≤ 100) (hB : B ≤ w.heap.size) (c1 : w.cell? ⟨rk, 1, none⟩ = some (.slice to n tc)) (f1 : w.frozen? ⟨rk, 1, none⟩ = false)
    (hrow : Hid (w.ownsRow B 75 3 (.slice to n tc) n (Hd.rowOf T))) (hnt : Hid (rk ∉ Gy.blk to)) (hs : Hid (s ∉ T)) :
    Calls Tryz.prog 35 #[.pointer (some ⟨rk, 0, none⟩), .agg #[.int .i64 s.k, .int .i64 s.f, .int .u64 (s.m : Int)]] w fun r w' => ∃ v g cap, r = .returned (.int .i64 v) ∧ NumD w w' B rk n to g cap (Hd.rowOf T ++ s.cells) := by
  have hrk : rk < w.heap.size := World.block_lt_of_cell? _ _ c1
  have R0 := hide (Rv.new w (.int .i64 s.k) (.int .i64 s.f) (.int .u64 (s.m : Int)) 75)
  go_enter Tryz.func35, Tryz.ntmps35
  go_wp2_with fail
  go_loopw [5] (fun i wr => ∃ j : Nat, i = .int .i64 (j : Int) ∧ j ≤ n ∧ Hid (G (w.alloc (.cells #[.int .i64 s.k, .int .i64 s.f, .int .u64 (s.m : Int)] 75)) wr))
    (fun i _ => n - (intOf i).toNat)
  case atStart => exact ⟨0, rfl, Nat.zero_le _, hide (G.refl _)⟩
  case round =>
    obtain ⟨j, rfl, hj, g0⟩ := hrel
    have gg := (G.alloc w _).trans (unhide g0)
    have k1 := gg.cell c1
    have e1 := (World.frozen?_of_block (a := ⟨rk, 1, none⟩) (gg.block rk hrk)).trans f1
    have hrow2 := hide (ownsRow_kept (w' := wr) (unhide hrow) fun d hd => gg.block d (by
      cases to with
      | none => cases hd
      | some a => simp [Gy.blk] at hd; subst hd; exact ((unhide hrow).lt a.block rfl).2))
    obtain ⟨b0, b1, b2, _⟩ := (unhide R0).gr (unhide g0)
    have hbx := ((unhide R0).gr (unhide g0)).lt
    have hsz := gg.size
    by_cases hlt : j < n
    · obtain ⟨t, ht⟩ : ∃ t, T[j]? = some t := ⟨_, List.getElem?_eq_getElem (by have := unhide hn; omega)⟩
      have hne : t ≠ s := fun e => unhide hs (e ▸ List.mem_of_getElem? ht)
      rcases (unhide hrow2).2 with ⟨_, h0⟩ | ⟨g, c, cur, e, _⟩
      · omega
      · have e2 : to = some ⟨g, 0, none⟩ := by injection e
        subst e2
        obtain ⟨t0, t1, t2⟩ := rrow_cells (unhide hrow2) ht
        have hgl := World.block_lt_of_cell? _ _ t0
        clear e
        rcases shp_ne' hne with q0 | ⟨q0, q1⟩ | ⟨q0, q1, q2⟩
        all_goals
          clear hne ht
          go_wp2_with fail
          go_quiet (fail)
          go_wp2_with fail
          go_roundw
          case rel => exact ⟨j + 1, by go_num, by omega, hide ((unhide g0).trans (G.drewN _ _))⟩
          case measure => simp [intOf]; omega
    · obtain ⟨i0, hi, hz0, hz1, hz2⟩ := info_parts info_rshape
      have HR : Hid (((wr.alloc (.cells #[.int .i64 s.k, .int .i64 s.f, .int .u64 (s.m : Int)] 75)).drew).ownsRow B 75 3 (.slice to n tc) n (Hd.rowOf T)) := hide ((unhide hrow2).alloc _)
      have HN : Hid (∀ (j : Nat) u, s.cells[j]? = some u → ((wr.alloc (.cells #[.int .i64 s.k, .int .i64 s.f, .int .u64 (s.m : Int)] 75)).drew).cell? ((⟨wr.heap.size, 0, none⟩ : Addr).add j) = some u) := hide fun j u hj => by
        rw [Addr.add_lit]
        show (wr.alloc (.cells #[.int .i64 s.k, .int .i64 s.f, .int .u64 (s.m : Int)] 75)).cell? _ = _
        rw [Nat.zero_add, World.cell?_alloc_new]
        simpa [Hd.Shp.cells] using hj
      have HO : Hid (∀ u ∈ s.cells, u.oneCell' = true) := hide fun u hu => by
        simp [Hd.Shp.cells] at hu
        rcases hu with rfl | rfl | rfl <;> rfl
      have HB : Hid (B ≤ ((wr.alloc (.cells #[.int .i64 s.k, .int .i64 s.f, .int .u64 (s.m : Int)] 75)).drew).heap.size) := hide (by
        show B ≤ (wr.alloc (.cells #[.int .i64 s.k, .int .i64 s.f, .int .u64 (s.m : Int)] 75)).heap.size
        rw [World.size_alloc]
        omega)
      have HE : Hid (∀ w3, ((wr.alloc (.cells #[.int .i64 s.k, .int .i64 s.f, .int .u64 (s.m : Int)] 75)).drew).grownBy w3 (Value.ownBlock (.slice to n tc)) → ∀ k, k < w.heap.size → k ∉ Gy.blk to → w3.heap[k]? = w.heap[k]?) := hide fun w3 hg3 k hk hkb =>
        (hg3.block k (by show k < (wr.alloc _).heap.size; rw [World.size_alloc]; omega) fun h => hkb (ownBlock_blk h)).trans ((Below.heap_alloc wr _ k (by omega)).trans (gg.block k hk))
      have HK : Hid (∀ w3, ((wr.alloc (.cells #[.int .i64 s.k, .int .i64 s.f, .int .u64 (s.m : Int)] 75)).drew).grownBy w3 (Value.ownBlock (.slice to n tc)) → w3.cell? ⟨rk, 1, none⟩ = some (.slice to n tc) ∧ w3.frozen? ⟨rk, 1, none⟩ = false) := hide fun w3 hg3 => by
        have e := unhide HE w3 hg3 rk hrk (unhide hnt)
        exact ⟨(World.cell?_of_block (a := ⟨rk, 1, none⟩) e).trans c1, (World.frozen?_of_block (a := ⟨rk, 1, none⟩) e).trans f1⟩
      have hgw : Hid (G w wr) := hide gg
      have hrk2 : rk < wr.heap.size := by omega
      clear gg
      go_wp2_with fail
      go_region_law (refine Hd.step_append_at rfl (.tmp 29) (.tmp 31) 37 rfl B 75 i0 (.agg #[.int .i64 0, .int .i64 0, .int .u64 0]) 3 24 Tryz.underlying37 hi hz0 hz1 hz2 rfl (by decide) to n tc (Hd.rowOf T) (by simp [Act.eval]) (unhide HR) ⟨wr.heap.size, 0, none⟩ 1 1 s.cells (by simp [Act.eval]) rfl (unhide HN) (unhide HO) (by decide) (by unfold maxLen; omega) (by omega) (unhide HB) ?_; intro g cap3 w3 hr3 hg3 hat3; obtain ⟨k3, f3⟩ := unhide HK w3 hg3; have hr3' := hide hr3; have hg3' := hide hg3; have hat3' := hide hat3; have k4 : (w3.setCell ⟨rk, 1, none⟩ (.slice (some ⟨g, 0, none⟩) (n + 1) cap3)).cell? ⟨rk, 1, none⟩ = some (.slice (some ⟨g, 0, none⟩) (n + 1) cap3) := cell_same _ k3; clear hr3 hg3 hat3)
      all_goals
        have D : Hid (NumD w (w3.setCell ⟨rk, 1, none⟩ (.slice (some ⟨g, 0, none⟩) (n + 1) cap3)) B rk n to g cap3 (Hd.rowOf T ++ s.cells)) := by
          have e := unhide HE w3 (unhide hg3')
          have erk := e rk hrk (unhide hnt)
          have hgs := (unhide hg3').size
          have hgs2 : wr.heap.size + 1 ≤ w3.heap.size := by
            have : (wr.alloc (.cells #[.int .i64 s.k, .int .i64 s.f, .int .u64 (s.m : Int)] 75)).heap.size ≤ w3.heap.size := hgs
            rw [World.size_alloc] at this
            exact this
          have hgr : g ≠ rk := by
            rintro rfl
            rcases unhide hat3' with h | h
            · exact unhide hnt (by rw [h]; simp [Gy.blk])
            · have h : g = (wr.alloc (.cells #[.int .i64 s.k, .int .i64 s.f, .int .u64 (s.m : Int)] 75)).heap.size := h
              rw [World.size_alloc] at h
              omega
          refine hide ⟨k4, ownsRow_kept (unhide hr3') fun d hd => ?_, (unhide hg3').os.trans (unhide hgw).os, (unhide hg3').tape.trans (unhide hgw).tape, (unhide hg3').output.trans (unhide hgw).output, by rw [World.size_setCell]; omega, fun k hk h1 h2 => ?_, ?_, fun i hi => ?_, fun i => ?_⟩
          · simp [Gy.blk] at hd
            subst hd
            exact Below.heap_setCell _ _ _ _ hgr
          · rw [Below.heap_setCell _ _ _ _ (by show k ≠ rk; exact h1)]
            exact e k hk h2
          · rcases unhide hat3' with h | h
            · exact Or.inl h
            · have h : g = (wr.alloc (.cells #[.int .i64 s.k, .int .i64 s.f, .int .u64 (s.m : Int)] 75)).heap.size := h
              rw [World.size_alloc] at h
              exact Or.inr (by omega)
          · rw [cell_other _ (Or.inr hi)]
            exact World.cell?_of_block (a := ⟨rk, i, none⟩) erk
          · rw [World.frozen?_setCell]
            exact World.frozen?_of_block (a := ⟨rk, i, none⟩) erk
        clear hr3' hg3' hat3' HE HK HB HO HN HR
        go_wp2_with fail
        go_ret
        exact ⟨_, g, cap3, rfl, unhide D⟩

section
variable {W w w' : World} {L : Lc} {e : Lx} {M M1 M2 : Ms} {N N' B : Nat} {E E' F : List Nat}
theorem d_number (h : Hid (MS W w L M1 M2 N E)) (s : Hd.Shp) (hs : s ∉ M2.T) (hT : M2.T.length ≤ 100) :
    Calls Tryz.prog 35 #[.pointer (some ⟨L.rk, 0, none⟩), .agg #[.int .i64 s.k, .int .i64 s.f, .int .u64 (s.m : Int)]] w fun r w' => ∃ v, r = .returned (.int .i64 v) ∧ MS W w' L M1 ⟨M2.al, M2.T ++ [s], M2.g⟩ N E ∧ Kd w w' E := by
  obtain ⟨e, hx⟩ := unhide h
  have n0 := hx.dm.n0
  simp at n0
  refine (dnum_core w W.heap.size L.rk M2.T.length e.tc e.to M2.T s (hide rfl) hT hx.below.size hx.dm.c1 (hx.dm.fz 1) (hide hx.dm.row) (hide n0.1) (hide hs)).mono ?_
  rintro r w' ⟨v, g, cap, rfl, D⟩
  have lt2 : ∀ d ∈ L.f2 e, d < w.heap.size := fun d hd => hx.lt d (mem3.2 (Or.inr (Or.inl hd)))
  have hgl : g < w'.heap.size := (D.row.lt g rfl).2
  have kg : Kd w w' (Gy.blk e.go) := fun d hd => D.block d (lt2 d (by simp [Lc.f2, hd])) (fun h => n0.2 (h ▸ hd)) fun h => hx.dm.n1 d h hd
  have r := hx.two (e' := { e with to := some ⟨g, 0, none⟩, tc := cap }) (M2' := ⟨M2.al, M2.T ++ [s], M2.g⟩) (w' := w') ⟨D.os, D.tape, D.output, D.size, fun k hk hf => D.block k hk (by simp [Lc.f2] at hf; exact hf.1) (by simp [Lc.f2] at hf; exact hf.2.1)⟩
    (fun d hd => by
      simp [Lc.f2, Gy.blk] at hd ⊢
      rcases hd with e1 | e1 | e1
      · simp [e1]
      · rcases D.at_ with h | h
        · rw [h]; simp [e1]
        · exact Or.inr (by omega)
      · simp [e1]) rfl rfl
    ⟨(D.oth 0 (by decide)).trans hx.dm.c0, by rw [List.length_append]; exact D.c1, (D.oth 2 (by decide)).trans hx.dm.c2, fun i => (D.fz i).trans (hx.dm.fz i), by rw [List.length_append, Hd.rowOf_snoc]; exact D.row, hx.dm.grey.kept kg, by
      have hrl := lt2 L.rk (by simp [Lc.f2])
      simp [Gy.blk]
      refine ⟨fun h => ?_, by simpa [Gy.blk] using n0.2⟩
      rcases D.at_ with h2 | h2
      · exact n0.1 (by rw [h2, h]; simp [Gy.blk])
      · omega, fun d hd hg => by
      have hd' : d = g := by simpa [Gy.blk] using hd
      rw [hd'] at hg
      have := lt2 g (by simp [Lc.f2, hg])
      rcases D.at_ with h2 | h2
      · exact hx.dm.n1 g (by rw [h2]; simp [Gy.blk]) hg
      · omega⟩
    (fun d hd => by
      have hs' := D.size
      simp only [Lc.f2, List.mem_cons, List.mem_append] at hd
      rcases hd with e1 | e1 | e1
      · have := lt2 d (by simp [Lc.f2, e1]); omega
      · simp [Gy.blk] at e1; omega
      · have := lt2 d (by simp [Lc.f2, e1]); omega)
    (fun q => ⟨q.c0, q.c1, q.c2, q.tab, q.que, q.n0, q.n1⟩)
  exact ⟨v, rfl, ⟨_, r.1⟩, r.2⟩
theorem p_number (h : Hid (MS W w L M1 M2 N E)) (s : Hd.Shp) (hs : s.Fit) (hT : M1.T.length ≤ 100) :
    Calls Tryz.prog 34 #[.pointer (some ⟨L.tb, 0, none⟩), .agg #[.int .i64 s.k, .int .i64 s.f, .int .u64 (s.m : Int)]] w fun r w' => ∃ v c, r = .returned (.tuple #[.int .i64 v, .int .i64 c]) ∧ MS W w' L ⟨M1.al, Hd.addS M1.T s, M1.g⟩ M2 N E ∧ Kd w w' E := by
  obtain ⟨e, hx⟩ := unhide h
  have lt1 : ∀ d ∈ L.f1 e, d < w.heap.size := fun d hd => hx.lt d (mem3.2 (Or.inl hd))
  refine (Hd.number_any w W.heap.size L.tb L.mb e.ao e.cap M1.T s hx.pm.tab hs (by omega) hx.below.size).mono ?_
  rintro r w' ⟨ao', cap', rfl, T', t, ha⟩
  have n0 := hx.pm.n0
  simp at n0
  have n1 := hx.pm.n1
  have ao_in : ∀ d ∈ Gy.blk ao', d ∈ Gy.blk e.ao ∨ w.heap.size ≤ d := fun d hd => by
    cases hao : ao' with
    | none => rw [hao] at hd; cases hd
    | some a =>
      rw [hao] at hd
      simp [Gy.blk] at hd
      subst hd
      rcases ha a hao with h | h
      · exact Or.inl (blk_some h)
      · exact Or.inr h
  have kp : ∀ d, d < w.heap.size → d ≠ L.tb → d ≠ L.mb → d ∉ Gy.blk e.ao → w'.heap[d]? = w.heap[d]? := fun d h0 h1 h2 h3 => t.block d h0 h1 h2 fun a haa hd => h3 (hd ▸ blk_some haa)
  have k0 := kp L.kb (lt1 _ (by simp [Lc.f1])) n0.1 n0.2.1 n0.2.2
  have q1 := n1 L.tb (by simp)
  have q2 := n1 L.mb (by simp)
  simp at q1 q2
  have r := hx.one (e' := { e with ao := ao', cap := cap' }) (M1' := ⟨M1.al, Hd.addS M1.T s, M1.g⟩) (w' := w') ⟨t.os, t.tape, t.output, t.size, fun k hk hf => by simp [Lc.f1] at hf; exact kp k hk hf.2.1 hf.2.2.1 hf.2.2.2.2.1⟩
    (fun d hd => by
      simp [Lc.f1] at hd ⊢
      rcases hd with e1 | e1 | e1 | e1 | e1 | e1
      · simp [e1]
      · simp [e1]
      · simp [e1]
      · simp [e1]
      · rcases ao_in d e1 with h | h
        · simp [h]
        · exact Or.inr h
      · simp [e1]) rfl rfl
    ⟨(World.cell?_of_block (a := ⟨L.kb, 0, none⟩) k0).trans hx.pm.c0, (World.cell?_of_block (a := ⟨L.kb, 1, none⟩) k0).trans hx.pm.c1, (World.cell?_of_block (a := ⟨L.kb, 2, none⟩) k0).trans hx.pm.c2, T', hx.pm.que.kept (kp _ (lt1 _ (by simp [Lc.f1])) (fun h => q1.1 h.symm) (fun h => q2.1 h.symm) fun h => by have := n1 _ (by simp [h] : L.q ∈ L.kb :: L.tb :: L.mb :: Gy.blk e.ao); simp at this) (fun b hb => kp b (lt1 b (by simp [Lc.f1, hb])) (fun h => q1.2 (h ▸ hb)) (fun h => q2.2 (h ▸ hb)) fun h => by have := n1 b (by simp [h]); simp [hb] at this), by
      simp
      refine ⟨n0.1, n0.2.1, fun h => ?_⟩
      rcases ao_in _ h with h2 | h2
      · exact n0.2.2 h2
      · have := lt1 L.kb (by simp [Lc.f1]); omega, fun d hd hq => by
      simp only [List.mem_cons] at hd
      rcases hd with e1 | e1 | e1 | e1
      · exact n1 d (by simp [e1]) hq
      · exact n1 d (by simp [e1]) hq
      · exact n1 d (by simp [e1]) hq
      · rcases ao_in d e1 with h | h
        · exact n1 d (by simp [h]) hq
        · have : d < w.heap.size := lt1 d (by simp only [List.mem_cons] at hq; rcases hq with h | h <;> simp [Lc.f1, h])
          omega⟩
    (fun d hd => by
      have hs' := t.size
      simp only [Lc.f1, List.mem_cons, List.mem_append] at hd
      rcases hd with e1 | e1 | e1 | e1 | e1 | e1
      · have := lt1 d (by simp [Lc.f1, e1]); omega
      · have := lt1 d (by simp [Lc.f1, e1]); omega
      · have := lt1 d (by simp [Lc.f1, e1]); omega
      · have := lt1 d (by simp [Lc.f1, e1]); omega
      · cases hao : ao' with
        | none => rw [hao] at e1; cases e1
        | some a => rw [hao] at e1; simp [Gy.blk] at e1; subst e1; exact (T'.aoB a hao).2
      · have := lt1 d (by simp [Lc.f1, e1]); omega)
    (fun q => ⟨q.c0, q.c1, q.c2, q.fz, q.row, q.grey, q.n0, q.n1⟩)
  exact ⟨_, _, rfl, ⟨_, r.1⟩, r.2⟩
end
end Go.Proofs.YtinehimleldkdaaGreatDoor

/- The law's small calls: put, size, shapes; what is made at the start. -/
namespace Go.Proofs.YtinehimleldkdaaGreatDoor
set_option maxRecDepth 100000
open Go.ChangeShapes Go.WideShapes Go.ChangeAt Go.RowKit Go.Maps Go.Deep

section
variable {W w w' : World} {L : Lc} {e : Lx} {M M1 M2 : Ms} {N N' B : Nat} {E E' F : List Nat}
theorem writeA_out {a : Ab} {x j v : Int} (h : a.is x = false) : a.writeA x j v = a := by
  unfold Ab.writeA Ab.inW
  rw [h]
  rfl
set_option maxHeartbeats 1000000 in
theorem b_put (h : Hid (MS W w L M1 M2 N E)) (hN : N ≤ 2000) (x v : Int) (j : Nat) (hin : Hid (M2.al.a.is x = true → (j : Int) < gw (M2.al.a.clsI (gs x)))) :
    Calls Tryz.prog 15 #[.pointer (some ⟨L.xl.d.ab, 0, none⟩), .pointer (some ⟨L.x.rb, 0, none⟩), .int .i64 x, .int .i64 (j : Int), .int .i64 v] w fun r w' => r = .returned (.tuple #[]) ∧ MS W w' L ⟨⟨M1.al.a.writeA x j v, M1.al.u⟩, M1.T, M1.g⟩ ⟨⟨M2.al.a.writeA x j v, M2.al.u⟩, M2.T, M2.g⟩ N E ∧ Kd w w' E := by
  obtain ⟨e, hx⟩ := unhide h
  have C := hide (bp_write (hide hx.bo) x (j : Int) v)
  have H := hide hx
  clear hx h
  generalize M1.al.a.readE x (j : Int) = er at *
  go_enter Tryz.func15, Tryz.ntmps15
  go_wp2_with fail
  refine (unhide C).mono ?_
  rintro r w1 ⟨rfl, B1, K1⟩
  have X1 := hide ((unhide H).al B1 K1)
  have KE := hide (MSx.kd K1)
  have CF := hide (da_find (hide B1.da) hN x)
  clear C B1 K1 H
  go_wp2_with fail
  refine (unhide CF).mono ?_
  rintro r w2 ⟨rfl, ⟨rfl, hi⟩ | ⟨i, g, n, lc, wb, nw, wc, rfl, hi, D⟩⟩
  · have eA : M2.al.a.writeA x (j : Int) v = M2.al.a := writeA_out hi
    have R : Hid (MS W w2 L ⟨⟨M1.al.a.writeA x j v, M1.al.u⟩, M1.T, M1.g⟩ ⟨⟨M2.al.a.writeA x j v, M2.al.u⟩, M2.T, M2.g⟩ N E) := hide (by rw [eA]; exact ⟨e, unhide X1⟩)
    clear CF eA X1 hi
    go_wp2_with fail
    go_end0
    exact ⟨rfl, unhide R, unhide KE⟩
  · obtain ⟨c1, _, c3, h4, h5, h6⟩ := D.cells
    have hjn : j < nw := by have := unhide hin hi; omega
    obtain ⟨cw, fw⟩ := D.word hjn
    obtain ⟨DA', K'⟩ := D.put hjn v
    have R2 := (unhide X1).bo.ref DA' K'
    have KA : Kd w2 (w2.setCell ⟨wb, j, none⟩ (.int .i64 v)) (L.f1 e ++ L.f2 e ++ E) := fun d hd => K' d (List.mem_append.2 (Or.inr hd))
    have R : Hid (MS W (w2.setCell ⟨wb, j, none⟩ (.int .i64 v)) L ⟨⟨M1.al.a.writeA x j v, M1.al.u⟩, M1.T, M1.g⟩ ⟨⟨M2.al.a.writeA x j v, M2.al.u⟩, M2.T, M2.g⟩ N E ∧ Kd w (w2.setCell ⟨wb, j, none⟩ (.int .i64 v)) E) := hide ⟨⟨e, (unhide X1).al R2.1 KA⟩, (unhide KE).trans (MSx.kd KA)⟩
    clear CF D DA' K' R2 KA X1 KE h6
    go_wp2_with fail
    go_end0
    exact ⟨rfl, unhide R⟩
end

/-! ### size -/
theorem and63 (n : Int) : bits .and .i64 n 63 = n % 64 := by
  have h7 : (BitVec.ofInt 64 63).toNat = 2 ^ 6 - 1 := by decide
  have key : (BitVec.ofInt 64 n &&& BitVec.ofInt 64 63).toNat = (n % ((2 ^ 64 : Nat) : Int)).toNat % 2 ^ 6 := by
    rw [BitVec.toNat_and, BitVec.toNat_ofInt, h7, Nat.and_two_pow_sub_one_eq_mod]
  show IntKind.i64.wrap ((BitVec.ofInt 64 n &&& BitVec.ofInt 64 63).toNat : Nat) = n % 64
  rw [key, IntKind.wrap_i64]
  omega
/-- A thing's kind, its words. -/
def thk (sh : Int) : Nat := (sh % 8 % 6).toNat
def szI (sh wd : Int) : Int := if (thk sh : Int) < 4 then thk sh + 1 else if wd % 64 < 1 then 1 else wd % 64
theorem thk_lt (sh : Int) : thk sh < 6 := by unfold thk; omega
theorem szI_r (sh wd : Int) : 1 ≤ szI sh wd ∧ szI sh wd ≤ 64 := by unfold szI; split <;> (try split) <;> omega
theorem rem6 {r : Int} (h0 : 0 ≤ r) : Int.tmod r 6 = r % 6 := Int.tmod_eq_emod_of_nonneg h0
set_option maxHeartbeats 1000000 in
theorem size_any (sh wd : Int) (sv : Value) (w : World) : Calls Tryz.prog 37 #[.agg #[.int .i64 sh, .int .i64 wd, sv]] w fun r w' => r = .returned (.int .i64 (szI sh wd)) ∧ G w w' := by
  obtain ⟨r, hr⟩ : ∃ r, sh % 8 = r := ⟨_, rfl⟩
  have h7 : bits .and .i64 sh 7 = r := by rw [and7]; exact hr
  obtain ⟨q, hq⟩ : ∃ q, wd % 64 = q := ⟨_, rfl⟩
  have h63 : bits .and .i64 wd 63 = q := by rw [and63]; exact hq
  have hk : Hid ((thk sh : Int) = r % 6) := hide (by unfold thk; omega)
  have hq0 : 0 ≤ q ∧ q ≤ 63 := by omega
  have hS : Hid (szI sh wd = if r % 6 < 4 then r % 6 + 1 else if q < 1 then 1 else q) := hide (by unfold szI; rw [unhide hk, hq])
  rw [unhide hS]
  have hr8 : r = 0 ∨ r = 1 ∨ r = 2 ∨ r = 3 ∨ r = 4 ∨ r = 5 ∨ r = 6 ∨ r = 7 := by omega
  clear hr hq hk hS
  by_cases hq1 : q < 1
  · have d1 : decide (q < 1) = true := by simpa using hq1
    rcases hr8 with rfl | rfl | rfl | rfl | rfl | rfl | rfl | rfl
    all_goals
      go_enter Tryz.func37, Tryz.ntmps37
      go_wp2_with fail
      go_ret
      exact ⟨by simp, by go_grown⟩
  · have d1 : decide (q < 1) = false := by simpa using hq1
    rcases hr8 with rfl | rfl | rfl | rfl | rfl | rfl | rfl | rfl
    all_goals
      go_enter Tryz.func37, Tryz.ntmps37
      go_wp2_with fail
      go_ret
      exact ⟨by simp, by go_grown⟩
end Go.Proofs.YtinehimleldkdaaGreatDoor

/- What world makes at its start. -/
namespace Go.Proofs.YtinehimleldkdaaGreatDoor
set_option maxRecDepth 100000
open Go.ChangeShapes Go.WideShapes Go.ChangeAt Go.RowKit Go.Maps Go.Deep

set_option maxHeartbeats 1000000 in
theorem l_new2_core {w : World} (ab n : Nat) (C : Array Value) (M : ∀ w, (Instr.makeSlice 103 (.int .i64 (n : Int)) (.int .i64 (n : Int))).run Tryz.prog w = .ok (.slice (some ⟨w.heap.size, 0, none⟩) n n) (w.alloc (.cells C 4)))
    (hsp : Hid (Calls Tryz.prog 61 #[.pointer (some ⟨ab, 0, none⟩)] w fun e w' => e = .returned (.int .i64 (n : Int)) ∧ w' = w)) :
    Calls Tryz.prog 31 #[.pointer (some ⟨ab, 0, none⟩)] w fun e w' => e = .returned (.pointer (some ⟨w.heap.size + 1, 0, none⟩)) ∧ w' = (w.alloc (.cells C 4)).alloc (.cells #[.pointer (some ⟨ab, 0, none⟩), .slice (some ⟨w.heap.size, 0, none⟩) n n] 124) := by
  go_enter Tryz.func31, Tryz.ntmps31
  go_wp2_with fail
  refine (unhide hsp).mono ?_
  rintro e w2 ⟨rfl, hw⟩
  subst hw
  clear hsp
  go_wp2_with fail
  go_ret
  exact ⟨rfl, rfl⟩
theorem l_new2 {W w : World} {d : Ad} (n : Nat) (hn5 : n ≤ 512) (h : Hid (St W w d (ab0 n))) :
    Calls Tryz.prog 31 #[.pointer (some ⟨d.ab, 0, none⟩)] w fun e w' => ∃ x : Ld, e = .returned (.pointer (some ⟨x.lb, 0, none⟩)) ∧ x.d = d ∧ StL W w' x (al0 n) ∧ G w w' ∧ w.heap.size ≤ x.lb ∧ w.heap.size ≤ x.ub := by
  refine (l_new2_core d.ab n _ (mk_bools n hn5) (hide (st_spans h))).mono ?_
  rintro e w' ⟨rfl, rfl⟩
  obtain ⟨r1, r2⟩ := lnew_at _ (unhide h) fun _ _ hb => bools_at (n := n) hb
  exact ⟨_, rfl, rfl, r1, r2, Nat.le_succ _, Nat.le_refl _⟩

theorem ms_start {W w : World} {xl : Ld} {x : Rq} {n kb tb mb q rk : Nat} (hst : StL W w xl (al0 n)) (hda : DA W w x (al0 n) 0 (five xl ++ [kb, tb, mb, q, rk])) (ht : Hd.TabAt w W.heap.size tb mb none 0 []) (hq : Gy.QL w q [] [])
    (k0 : w.cell? ⟨kb, 0, none⟩ = some (.pointer (some ⟨xl.d.ab, 0, none⟩))) (k1 : w.cell? ⟨kb, 1, none⟩ = some (.pointer (some ⟨tb, 0, none⟩))) (k2 : w.cell? ⟨kb, 2, none⟩ = some (.pointer (some ⟨q, 0, none⟩)))
    (hr : Rv w rk (.pointer (some ⟨x.rb, 0, none⟩)) (.slice none 0 0) (.slice none 0 0))
    (hd5 : Ds [kb, tb, mb, q, rk] (five xl)) (hn : kb ≠ tb ∧ kb ≠ mb ∧ kb ≠ q ∧ tb ≠ q ∧ mb ≠ q ∧ rk ≠ kb ∧ rk ≠ tb ∧ rk ≠ mb ∧ rk ≠ q) (hlo : ∀ d ∈ [kb, tb, mb, q, rk], W.heap.size ≤ d) :
    MS W w ⟨xl, x, kb, tb, mb, q, rk⟩ ⟨al0 n, [], []⟩ ⟨al0 n, [], []⟩ 0 [] := by
  obtain ⟨n1, n2, n3, n4, n5, n6, n7, n8, n9⟩ := hn
  refine ⟨⟨none, 0, [], none, 0, none, 0⟩, ⟨hst, hda, fun e he => ?_⟩, ⟨k0, k1, k2, ht, hq, by simp [Gy.blk, n1, n2], fun d hd hd2 => ?_⟩, ⟨hr.c0, hr.c1, hr.c2, hr.f, World.ownsRow_nil _ _ _ _, Gy.RowW.nil _ _, by simp [Gy.blk], (fun d hd => by cases hd)⟩, hd5, fun d h1 h2 => ?_, (fun d _ h2 => by cases h2), hlo⟩
  · have := hd5 e he
    simp [five] at this
    exact ⟨this.2.2.2.1, this.2.2.2.2, this.2.1⟩
  · simp [Gy.blk] at hd hd2
    rcases hd with e | e | e <;> omega
  · simp [Lc.f1, Lc.f2, Gy.blk] at h1 h2
    rcases h1 with e | e | e | e <;> omega
end Go.Proofs.YtinehimleldkdaaGreatDoor

/- PLAIN: what is marked is there behind any sweeping and taking; no Go in it. -/
namespace Go.Proofs.YtinehimleldkdaaGreatDoor
set_option maxRecDepth 100000

/-- A place that is taken and marked begins at x; its first word is v. -/
def Kp (a : Ab) (x v : Int) : Prop :=
  ∃ s p : Nat, 1 ≤ s ∧ s < a.n ∧ 0 ≤ a.cls s ∧ (p : Int) < gp (a.cls s) ∧ (a.tk s).testBit p = true ∧ (a.mr s).testBit p = true ∧ x = ga s p (a.cls s) ∧ a.wd x = v

theorem Kp.is {a : Ab} (g : a.Good) {x v : Int} (h : Kp a x v) : a.is x = true := by
  obtain ⟨s, p, h1, h2, h3, h4, h5, _, h7, _⟩ := h
  exact (Ab.is_iff g.ok x).2 ⟨s, p, h1, h2, h3, h4, h5, h7⟩

theorem Kp.sweep {a : Ab} {x v : Int} (h : Kp a x v) (t : Int) : Kp (a.sweepA t) x v := by
  unfold Ab.sweepA
  split
  · obtain ⟨s, p, h1, h2, h3, h4, h5, h6, h7, h8⟩ := h
    refine ⟨s, p, h1, h2, ?_⟩
    show 0 ≤ (if a.kept t.toNat = 0 then upd a.cls t.toNat (-1) else a.cls) s ∧ (p : Int) < gp ((if a.kept t.toNat = 0 then upd a.cls t.toNat (-1) else a.cls) s) ∧ (upd a.tk t.toNat (a.kept t.toNat) s).testBit p = true ∧
      ((if a.kept t.toNat = 0 then upd a.mr t.toNat 0 else a.mr) s).testBit p = true ∧ x = ga s p ((if a.kept t.toNat = 0 then upd a.cls t.toNat (-1) else a.cls) s) ∧ a.wd x = v
    by_cases e : s = t.toNat
    · subst e
      have hb : (a.kept t.toNat).testBit p = true := by rw [kept_bit, h5, h6]; rfl
      have hz : ¬ a.kept t.toNat = 0 := by intro hz; rw [hz] at hb; simp at hb
      rw [if_neg hz, if_neg hz, upd_same]
      exact ⟨h3, h4, hb, h6, h7, h8⟩
    · have e1 : (if a.kept t.toNat = 0 then upd a.cls t.toNat (-1) else a.cls) s = a.cls s := by split; exact upd_other _ _ e; rfl
      have e2 : (if a.kept t.toNat = 0 then upd a.mr t.toNat 0 else a.mr) s = a.mr s := by split; exact upd_other _ _ e; rfl
      rw [e1, e2, upd_other _ _ e]
      exact ⟨h3, h4, h5, h6, h7, h8⟩
  · exact h
theorem Kp.set {a : Ab} {x v : Int} (h : Kp a x v) (t c : Int) : Kp (a.setA t c) x v := by
  unfold Ab.setA
  split
  · rename_i e
    obtain ⟨s, p, h1, h2, h3, h4, h5, h6, h7, h8⟩ := h
    have es : s ≠ t.toNat := by
      intro es
      unfold Ab.setE at e
      split at e
      · omega
      · rename_i hh
        have et : t = (s : Int) := by omega
        rw [et, a.clsI_at h1 h2, if_pos h3] at e
        omega
    refine ⟨s, p, h1, h2, ?_⟩
    show 0 ≤ upd a.cls t.toNat c s ∧ (p : Int) < gp (upd a.cls t.toNat c s) ∧ (upd a.tk t.toNat 0 s).testBit p = true ∧ (upd a.mr t.toNat 0 s).testBit p = true ∧ x = ga s p (upd a.cls t.toNat c s) ∧ a.wd x = v
    rw [upd_other _ _ es, upd_other _ _ es, upd_other _ _ es]
    exact ⟨h3, h4, h5, h6, h7, h8⟩
  · exact h

/-- A place that is taken anew was not taken. -/
theorem took_new {b : Ab} (g : b.Good) {s : Int} (e : b.takeE s = 0) : b.is (b.takeV s) = false := by
  obtain ⟨t, p, rfl, ef, h1, h2, h3, h4, h5, h6, h7, h8, _⟩ := g.free e
  have eV : b.takeV t = ga t p (b.cls t) := by unfold Ab.takeV; rw [if_pos e, ef, h4]
  rw [← Bool.not_eq_true, eV, Ab.is_iff g.ok]
  rintro ⟨s', p', k1, k2, k3, k4, k5, k6⟩
  obtain ⟨rfl, rfl⟩ := ga_inj g.ok h1 h2 h3 h6 k1 k2 k3 k4 k6
  rw [h7] at k5
  cases k5
theorem Kp.take {a : Ab} (g : a.Good) {x v : Int} (h : Kp a x v) {t : Int} (e : a.takeE t = 0) : Kp (a.takeA t) x v := by
  obtain ⟨u, q, rfl, ef, k1, k2, k3, k4, k5, k6, k7, k8, _⟩ := g.free e
  have eA : a.takeA u = a.take u q := by unfold Ab.takeA; rw [if_pos e, ef]; rfl
  rw [eA]
  obtain ⟨s, p, h1, h2, h3, h4, h5, h6, h7, h8⟩ := h
  refine ⟨s, p, h1, h2, h3, h4, ?_, h6, h7, ?_⟩
  · show (upd a.tk u (a.tk u ||| 2 ^ q) s).testBit p = true
    by_cases es : s = u
    · subst es; rw [upd_same, testBit_or_pow, h5]; rfl
    · rw [upd_other _ _ es]; exact h5
  · show (if ga u q (a.cls u) ≤ x ∧ x < ga u q (a.cls u) + gw (a.cls u) then 0 else a.wd x) = v
    rw [if_neg ?_]
    · exact h8
    · intro hx
      have hg : 2 ≤ gw (a.cls s) := by rcases gw_gp (a.cls s) with ⟨_, y⟩ | ⟨_, y, _⟩ <;> omega
      refine places_apart g.ok h1 h2 h3 h4 k1 k2 k3 k6 ?_ (x := x) (by rw [h7]; omega) hx
      rintro ⟨rfl, rfl⟩
      rw [k7] at h5
      cases h5
theorem Kp.mark {a : Ab} {x v : Int} (h : Kp a x v) (y : Int) : Kp (a.markA y) x v := by
  unfold Ab.markA
  split
  · obtain ⟨s, p, h1, h2, h3, h4, h5, h6, h7, h8⟩ := h
    refine ⟨s, p, h1, h2, h3, h4, h5, ?_, h7, h8⟩
    show (upd a.mr (gs y).toNat (a.mr (gs y).toNat ||| 2 ^ (a.pl y).toNat) s).testBit p = true
    by_cases es : s = (gs y).toNat
    · subst es; rw [upd_same, testBit_or_pow, h6]; rfl
    · rw [upd_other _ _ es]; exact h6
  · exact h
theorem Kp.write {a : Ab} (g : a.Good) {x v y k u : Int} (h : Kp a x v) (hw : a.inW y k = true) (hne : x ≠ y) : Kp (a.writeA y k u) x v := by
  have hx := h.is g
  unfold Ab.writeA
  rw [if_pos hw]
  unfold Ab.inW at hw
  simp only [Bool.and_eq_true, decide_eq_true_eq] at hw
  obtain ⟨s, p, h1, h2, h3, h4, h5, h6, h7, h8⟩ := h
  refine ⟨s, p, h1, h2, h3, h4, h5, h6, h7, ?_⟩
  show (if x = y + k then u else a.wd x) = v
  rw [if_neg ?_]
  · exact h8
  · have n1 := g.ok.n1
    have hgs : gs x = s := by rw [h7]; exact (ga_at (s := s) (p := p) h1 (by omega) h3 (g.ok.cr s).2 h4).2.1
    have hg : 2 ≤ gw (a.cls s) := by rcases gw_gp (a.cls s) with ⟨_, z⟩ | ⟨_, z, _⟩ <;> omega
    have := g.disj hx hw.1.1 hne (j := 0) (k := k) ⟨by omega, by rw [hgs, a.clsI_at h1 h2]; omega⟩ ⟨hw.1.2, hw.2⟩
    omega

/-- All of a list, each with 1000 and its address as its word. -/
def Kps (a : Ab) (ks : List Int) : Prop := ∀ x ∈ ks, Kp a x (1000 + x)
/-- What is taken is none of them. -/
theorem Kps.takes {l : Al} {ks : List Int} (g : l.a.Good) (h : Kps l.a ks) (n : Int) :
    Kps (l.take n).1.a ks ∧ ((l.take n).2.2 = 0 → (l.take n).1.a.is (l.take n).2.1 = true ∧ 0 < (l.take n).2.1 ∧ ∀ x ∈ ks, x ≠ (l.take n).2.1) := by
  rcases Al.take_ind (P := fun b => b.Good ∧ Kps b ks) (fun _ s h => ⟨h.1.sweepA' s, fun x hx => (h.2 x hx).sweep s⟩) (fun _ s c h => ⟨h.1.setA' s c, fun x hx => (h.2 x hx).set s c⟩) n ⟨g, h⟩ with ⟨e, _, k⟩ | ⟨e, b, t, ⟨gb, kb⟩, hb, ea, ev⟩
  · exact ⟨k, fun h0 => absurd h0 e⟩
  · rw [ea, ev]
    refine ⟨fun x hx => (kb x hx).take gb hb, fun _ => ?_⟩
    obtain ⟨t0, t1⟩ := took_is gb hb
    refine ⟨t1, t0, fun x hx hxe => ?_⟩
    have h1 := (kb x hx).is gb
    rw [hxe, took_new gb hb] at h1
    cases h1
/-- One more: marked, and written. -/
theorem Kps.keep {a : Ab} {ks : List Int} (g : a.Good) (h : Kps a ks) {x : Int} (hx : a.is x = true) (hne : ∀ y ∈ ks, y ≠ x) : (a.markA x).Good ∧ ((a.markA x).writeA x 0 (1000 + x)).Good ∧ Kps ((a.markA x).writeA x 0 (1000 + x)) (ks ++ [x]) := by
  obtain ⟨s, p, h1, h2, h3, h4, h5, h6⟩ := (Ab.is_iff g.ok x).1 hx
  have n1 := g.ok.n1
  obtain ⟨_, e1, e2, _⟩ := ga_at (s := s) (p := p) h1 (by omega) h3 (g.ok.cr s).2 h4
  rw [← h6] at e1 e2
  have epl : a.pl x = p := by unfold Ab.pl; rw [e1, a.clsI_at h1 h2, e2]
  have gm : (a.markA x).Good := by
    unfold Ab.markA; split
    · rw [e1, epl]; exact g.mark (by simpa using h5)
    · exact g
  have hm : (a.markA x).n = a.n ∧ (a.markA x).cls = a.cls ∧ (a.markA x).tk = a.tk ∧ ((a.markA x).mr s).testBit p = true := by
    unfold Ab.markA; split
    · refine ⟨rfl, rfl, rfl, ?_⟩
      rw [e1, epl]
      show (upd a.mr ((s : Int)).toNat _ s).testBit p = true
      simp only [Int.toNat_natCast]
      rw [upd_same, testBit_or_pow]; simp
    · rename_i hb
      refine ⟨rfl, rfl, rfl, ?_⟩
      unfold Ab.markB at hb
      rw [hx] at hb
      have : a.isM x = true := by simpa using hb
      unfold Ab.isM at this
      rw [e1, epl, (a.I_at h1 h2).2.2] at this
      simpa using this
  have his : (a.markA x).is x = true := (Ab.is_iff gm.ok x).2 ⟨s, p, h1, by rw [hm.1]; exact h2, by rw [hm.2.1]; exact h3, by rw [hm.2.1]; exact h4, by rw [hm.2.2.1]; exact h5, by rw [hm.2.1]; exact h6⟩
  have hg : 2 ≤ gw (a.cls s) := by rcases gw_gp (a.cls s) with ⟨_, z⟩ | ⟨_, z, _⟩ <;> omega
  have hin : (a.markA x).inW x 0 = true := by
    unfold Ab.inW
    rw [his, e1, (a.markA x).clsI_at h1 (by rw [hm.1]; exact h2), hm.2.1]
    simp
    omega
  refine ⟨gm, ?_, ?_⟩
  · unfold Ab.writeA; rw [if_pos hin]; exact gm.write _ _
  · intro y hy
    rcases List.mem_append.1 hy with hy | hy
    · exact ((h y hy).mark x).write gm hin (hne y hy)
    · obtain rfl : y = x := by simpa using hy
      unfold Ab.writeA
      rw [if_pos hin]
      refine ⟨s, p, h1, by show s < (a.markA y).n; rw [hm.1]; exact h2, by show 0 ≤ (a.markA y).cls s; rw [hm.2.1]; exact h3, by show (p : Int) < gp ((a.markA y).cls s); rw [hm.2.1]; exact h4, by show ((a.markA y).tk s).testBit p = true; rw [hm.2.2.1]; exact h5, hm.2.2.2, by show y = ga s p ((a.markA y).cls s); rw [hm.2.1]; exact h6, ?_⟩
      show (if y = y + 0 then 1000 + y else (a.markA y).wd y) = 1000 + y
      rw [if_pos (by omega)]
theorem Kps.read {a : Ab} {ks : List Int} (g : a.Good) (h : Kps a ks) {x : Int} (hx : x ∈ ks) : a.readE x 0 = 0 ∧ a.readV x 0 = 1000 + x := by
  have hk := h x hx
  have hi := hk.is g
  obtain ⟨s, p, h1, h2, h3, h4, h5, _, h6, h8⟩ := hk
  have n1 := g.ok.n1
  obtain ⟨_, e1, e2, _⟩ := ga_at (s := s) (p := p) h1 (by omega) h3 (g.ok.cr s).2 h4
  rw [← h6] at e1 e2
  have hg : 2 ≤ gw (a.cls s) := by rcases gw_gp (a.cls s) with ⟨_, z⟩ | ⟨_, z, _⟩ <;> omega
  have hin : a.inW x 0 = true := by
    unfold Ab.inW
    rw [hi, e1, a.clsI_at h1 h2]
    simp
    omega
  unfold Ab.readE Ab.readV
  rw [if_pos hin, if_pos hin, Int.add_zero]
  exact ⟨rfl, h8⟩

/-! ### how many are unswept -/
theorem unsN_le (u : Nat → Bool) : ∀ k, unsN u k ≤ k
  | 0 => Nat.le_refl _
  | k + 1 => by have := unsN_le u k; unfold unsN; split <;> omega
theorem leastU_none (u : Nat → Bool) : ∀ (k s : Nat), leastU u k s = none → ∀ t, s ≤ t → t < s + k → u t = false
  | 0, _, _, t, h1, h2 => by omega
  | k + 1, s, h, t, h1, h2 => by
    unfold leastU at h
    split at h
    · cases h
    · rename_i hu
      by_cases e : t = s
      · subst e; simpa using hu
      · exact leastU_none u k (s + 1) h t (by omega) (by omega)
theorem leastU_some (u : Nat → Bool) : ∀ (k s t : Nat), leastU u k s = some t → s ≤ t ∧ t < s + k ∧ u t = true ∧ ∀ r, s ≤ r → r < t → u r = false
  | 0, _, _, h => by cases h
  | k + 1, s, t, h => by
    unfold leastU at h
    split at h
    · rename_i hu
      injection h with h
      subst h
      exact ⟨Nat.le_refl _, by omega, hu, fun r h1 h2 => by omega⟩
    · rename_i hu
      obtain ⟨h1, h2, h3, h4⟩ := leastU_some u k (s + 1) t h
      refine ⟨by omega, by omega, h3, fun r r1 r2 => ?_⟩
      by_cases e : r = s
      · subst e; simpa using hu
      · exact h4 r (by omega) r2
theorem unsN_zero (u : Nat → Bool) : ∀ k, (∀ t, t < k → u t = false) → unsN u k = 0
  | 0, _ => rfl
  | k + 1, h => by unfold unsN; rw [unsN_zero u k (fun t ht => h t (by omega)), h k (by omega)]; rfl
theorem unsN_upd (u : Nat → Bool) {s : Nat} (hu : u s = true) : ∀ k, unsN (upd u s false) k + (if s < k then 1 else 0) = unsN u k
  | 0 => rfl
  | k + 1 => by
    have := unsN_upd u hu k
    show unsN (upd u s false) k + (if upd u s false k = true then 1 else 0) + (if s < k + 1 then 1 else 0) = unsN u k + if u k = true then 1 else 0
    by_cases e : k = s
    · subst e
      rw [if_neg (Nat.lt_irrefl _)] at this
      rw [upd_same, hu]
      simp
      omega
    · rw [upd_other _ _ e]
      by_cases h : s < k
      · rw [if_pos h] at this
        rw [if_pos (show s < k + 1 by omega)]
        omega
      · rw [if_neg h] at this
        rw [if_neg (show ¬ s < k + 1 by omega)]
        omega
end Go.Proofs.YtinehimleldkdaaGreatDoor

/- PLAIN: taking where nothing is unswept; no Go in it. -/
namespace Go.Proofs.YtinehimleldkdaaGreatDoor
set_option maxRecDepth 100000

def Al.Calm (l : Al) : Prop := ∀ s, l.u s = false
theorem least_of {P : Nat → Prop} (n : Nat) : P n → ∃ j, P j ∧ j ≤ n ∧ ∀ t, t < j → ¬ P t := by
  induction n using Nat.strongRecOn with
  | _ n ih =>
    intro h
    by_cases hh : ∃ m, m < n ∧ P m
    · obtain ⟨m, h1, h2⟩ := hh
      obtain ⟨j, j1, j2, j3⟩ := ih m h1 h2
      exact ⟨j, j1, by omega, j3⟩
    · exact ⟨n, h, Nat.le_refl _, fun t ht hp => hh ⟨t, ht, hp⟩⟩

section
variable {l : Al} {c : Int}
theorem Al.Calm.swp (h : l.Calm) (s : Nat) : l.swp s = l := by unfold Al.swp; rw [if_neg (by rw [h s]; decide)]
theorem toc_none (h : l.Calm) : ∀ k s, (∀ t : Nat, s ≤ t → t < s + k → l.a.clsI t = c → ¬ l.a.takeE t = 0) → Al.toc c k s l = (l, 0, false)
  | 0, _, _ => rfl
  | k + 1, s, H => by
    unfold Al.toc
    rw [h.swp s]
    split
    · rename_i hc
      rw [if_neg (H s (Nat.le_refl _) (by omega) hc)]
      exact toc_none h k (s + 1) fun t t1 t2 => H t (by omega) (by omega)
    · exact toc_none h k (s + 1) fun t t1 t2 => H t (by omega) (by omega)
theorem toc_some (h : l.Calm) {j : Nat} (hc : l.a.clsI j = c) (he : l.a.takeE j = 0) : ∀ k s, s ≤ j → j < s + k → (∀ t : Nat, s ≤ t → t < j → l.a.clsI t = c → ¬ l.a.takeE t = 0) → Al.toc c k s l = (⟨l.a.takeA j, l.u⟩, l.a.takeV j, true)
  | 0, _, h1, h2, _ => by omega
  | k + 1, s, h1, h2, H => by
    unfold Al.toc
    rw [h.swp s]
    by_cases e : s = j
    · subst e
      rw [if_pos hc, if_pos he]
    · split
      · rename_i hs
        rw [if_neg (H s (Nat.le_refl _) (by omega) hs)]
        exact toc_some h hc he k (s + 1) (by omega) (by omega) fun t t1 t2 => H t (by omega) t2
      · exact toc_some h hc he k (s + 1) (by omega) (by omega) fun t t1 t2 => H t (by omega) t2
theorem wo_none {a : Ab} : ∀ k s, (∀ t : Nat, s ≤ t → t < s + k → 0 ≤ a.clsI t) → a.wo k s = none
  | 0, _, _ => rfl
  | k + 1, s, H => by
    unfold Ab.wo
    rw [if_pos (H s (Nat.le_refl _) (by omega))]
    exact wo_none k (s + 1) fun t t1 t2 => H t (by omega) (by omega)
theorem wo_some {a : Ab} {j : Nat} (hj : ¬ 0 ≤ a.clsI j) : ∀ k s, s ≤ j → j < s + k → (∀ t : Nat, s ≤ t → t < j → 0 ≤ a.clsI t) → a.wo k s = some j
  | 0, _, h1, h2, _ => by omega
  | k + 1, s, h1, h2, H => by
    unfold Ab.wo
    by_cases e : s = j
    · subst e; rw [if_neg hj]
    · rw [if_pos (H s (Nat.le_refl _) (by omega))]
      exact wo_some hj k (s + 1) (by omega) (by omega) fun t t1 t2 => H t (by omega) t2
theorem sof_calm (h : l.Calm) : ∀ k s, Al.sof k s l = (l, none)
  | 0, _ => rfl
  | k + 1, s => by
    unfold Al.sof
    rw [if_neg (by rw [h s]; decide)]
    exact sof_calm h k (s + 1)
theorem take3_calm (h : l.Calm) : l.take3 c = (l, 0, 5) := by
  unfold Al.take3
  rw [sof_calm h]
theorem calm_upd {u : Nat → Bool} (h : ∀ s, u s = false) (s : Nat) : ∀ t, upd u s false t = false := by
  intro t
  by_cases e : t = s
  · subst e; exact upd_same _ _ _
  · rw [upd_other _ _ e]; exact h t

theorem takeE0 {a : Ab} {t : Nat} (h1 : 1 ≤ t) (h2 : t < a.n) : a.takeE t = 0 ↔ 0 ≤ a.cls t ∧ (a.tk t : Int) ≠ gf (a.cls t) := by
  unfold Ab.takeE
  rw [(a.I_at h1 h2).1, (a.I_at h1 h2).2.1]
  by_cases h : a.cls t < 0
  · rw [if_pos h]; omega
  · rw [if_neg h]
    by_cases e : (a.tk t : Int) = gf (a.cls t)
    · rw [if_pos e]; simp [e]
    · rw [if_neg e]; simp only [true_iff]; exact ⟨by omega, e⟩
theorem gf_pos {c : Int} (h0 : 0 ≤ c) (h5 : c ≤ 5) : 0 < gf c := by
  rcases cls c with h | h | h | h | h | h | h | h
  · omega
  · omega
  all_goals (subst h; decide)

/-- A span without a class gets one: its first place. -/
theorem first_ok {s : Nat} (h1 : 1 ≤ s) (h2 : s < l.a.n) (hs : l.a.cls s < 0) (h0 : 0 ≤ c) (h5 : c ≤ 5) :
    l.a.setA s c = l.a.set s c ∧ (l.a.set s c).takeE s = 0 ∧ l.first s c = (⟨(l.a.set s c).takeA s, upd l.u s false⟩, (l.a.set s c).takeV s, 0) := by
  have hE : l.a.setE s c = 0 := by
    unfold Ab.setE
    rw [if_neg (by omega), l.a.clsI_at h1 h2, if_neg (by omega)]
  have eA : l.a.setA s c = l.a.set s c := by unfold Ab.setA; rw [if_pos hE]; rfl
  have eT : (l.a.set s c).takeE s = 0 := by
    rw [takeE0 h1 (by exact h2)]
    show 0 ≤ upd l.a.cls s c s ∧ ((upd l.a.tk s 0 s : Nat) : Int) ≠ gf (upd l.a.cls s c s)
    rw [upd_same, upd_same]
    have := gf_pos h0 h5
    exact ⟨h0, by simp; omega⟩
  refine ⟨eA, eT, ?_⟩
  unfold Al.first
  rw [if_pos hE, eA, eT]

theorem gc_r (n : Int) : -1 ≤ gc n ∧ gc n ≤ 5 := by
  unfold gc
  repeat' split
  all_goals omega

/-- The way that a taking goes where nothing is unswept. -/
theorem take_ways (h : l.Calm) {n : Int} (hc : 0 ≤ gc n) :
    (∃ j : Nat, 1 ≤ j ∧ j < l.a.n ∧ l.a.clsI j = gc n ∧ l.a.takeE j = 0 ∧ l.take n = (⟨l.a.takeA j, l.u⟩, l.a.takeV j, 0)) ∨
    ((∀ t : Nat, 1 ≤ t → t < l.a.n → l.a.clsI t = gc n → ¬ l.a.takeE t = 0) ∧
      ((∃ j : Nat, 1 ≤ j ∧ j < l.a.n ∧ l.a.cls j < 0 ∧ (∀ t : Nat, 1 ≤ t → t < j → 0 ≤ l.a.cls t) ∧ l.take n = (⟨(l.a.set j (gc n)).takeA j, upd l.u j false⟩, (l.a.set j (gc n)).takeV j, 0)) ∨
       ((∀ t : Nat, 1 ≤ t → t < l.a.n → 0 ≤ l.a.cls t) ∧ l.take n = (l, 0, 5)))) := by
  have e0 : l.take n = l.takeC (gc n) := by unfold Al.take; rw [if_neg (by omega)]
  by_cases hh : ∃ j : Nat, 1 ≤ j ∧ j < l.a.n ∧ l.a.clsI j = gc n ∧ l.a.takeE j = 0
  · obtain ⟨j0, hj0⟩ := hh
    obtain ⟨j, ⟨j1, j2, j3, j4⟩, _, jl⟩ := least_of (P := fun j : Nat => 1 ≤ j ∧ j < l.a.n ∧ l.a.clsI j = gc n ∧ l.a.takeE j = 0) j0 hj0
    have ht := toc_some h j3 j4 (l.a.n - 1) 1 j1 (by omega) fun t t1 t2 t3 t4 => jl t t2 ⟨t1, by omega, t3, t4⟩
    refine Or.inl ⟨j, j1, j2, j3, j4, ?_⟩
    rw [e0]
    unfold Al.takeC
    rw [ht, if_pos rfl]
  · have ht := toc_none h (c := gc n) (l.a.n - 1) 1 fun t t1 t2 t3 t4 => hh ⟨t, t1, by omega, t3, t4⟩
    refine Or.inr ⟨fun t t1 t2 t3 t4 => hh ⟨t, t1, t2, t3, t4⟩, ?_⟩
    have e1 : l.take n = l.take2 (gc n) := by
      rw [e0]
      unfold Al.takeC
      rw [ht, if_neg (show ¬ (false : Bool) = true by decide)]
    by_cases hw : ∃ j : Nat, 1 ≤ j ∧ j < l.a.n ∧ l.a.cls j < 0
    · obtain ⟨j0, hj0⟩ := hw
      obtain ⟨j, ⟨j1, j2, j3⟩, _, jl⟩ := least_of (P := fun j : Nat => 1 ≤ j ∧ j < l.a.n ∧ l.a.cls j < 0) j0 hj0
      have hl : ∀ t : Nat, 1 ≤ t → t < j → 0 ≤ l.a.cls t := fun t t1 t2 => by
        have := jl t t2
        omega
      refine Or.inl ⟨j, j1, j2, j3, hl, ?_⟩
      have hw2 := wo_some (a := l.a) (j := j) (by rw [l.a.clsI_at j1 j2]; omega) (l.a.n - 1) 1 j1 (by omega) fun t t1 t2 => by rw [l.a.clsI_at t1 (by omega)]; exact hl t t1 t2
      rw [e1]
      unfold Al.take2
      rw [hw2]
      exact (first_ok j1 j2 j3 hc (gc_r n).2).2.2
    · have hl : ∀ t : Nat, 1 ≤ t → t < l.a.n → 0 ≤ l.a.cls t := fun t t1 t2 => by
        have : ¬ l.a.cls t < 0 := fun h => hw ⟨t, t1, t2, h⟩
        omega
      refine Or.inr ⟨hl, ?_⟩
      rw [e1]
      unfold Al.take2
      rw [wo_none (a := l.a) (l.a.n - 1) 1 fun t t1 t2 => by rw [l.a.clsI_at t1 (by omega)]; exact hl t t1 (by omega)]
      exact take3_calm h
theorem take_calm (h : l.Calm) (n : Int) : (l.take n).1.Calm := by
  by_cases hc : 0 ≤ gc n
  · rcases take_ways h hc with ⟨j, _, _, _, _, e⟩ | ⟨_, ⟨j, _, _, _, _, e⟩ | ⟨_, e⟩⟩
    · rw [e]; exact h
    · rw [e]; exact calm_upd h j
    · rw [e]; exact h
  · unfold Al.take; rw [if_pos (by omega)]; exact h

/-- A span is not full just if fewer of its places are taken than there are. -/
theorem full_pop {a : Ab} (g : a.Good) {t : Nat} (h0 : 0 ≤ a.cls t) : (a.tk t : Int) ≠ gf (a.cls t) ↔ (popF 64 (a.tk t) : Int) < gp (a.cls t) := by
  obtain ⟨q, hq, hf⟩ := gf_two h0 (g.ok.cr t).2
  have hq64 : q ≤ 64 := by have := gp_pos h0 (g.ok.cr t).2; omega
  rw [popF_cnt, hq]
  constructor
  · intro hne
    obtain ⟨f1, f2, _⟩ := free_spec (g.ok.tb t h0) h0 (g.ok.cr t).2 hne
    have hle := len_le_of_mem (l := (List.range 64).filter fun p => (a.tk t).testBit p) (m := (List.range q).erase (freeN (a.tk t))) (List.Nodup.sublist List.filter_sublist List.nodup_range) (fun x hx => by
      have hx2 := (List.mem_filter.1 hx).2
      have := g.ok.tb t h0 x hx2
      refine (List.mem_erase_of_ne ?_).2 (by rw [List.mem_range]; omega)
      rintro rfl
      rw [f2] at hx2
      cases hx2)
    rw [List.length_erase_of_mem (by rw [List.mem_range]; omega), List.length_range] at hle
    have : 0 < q := by omega
    omega
  · intro hlt he
    have e1 : a.tk t = 2 ^ q - 1 := by omega
    rw [e1] at hlt
    have e2 : ((List.range 64).filter fun p => (2 ^ q - 1).testBit p) = (List.range q).filter fun _ => true := by
      rw [← range_part q (fun _ => true) 64 hq64]
      refine List.filter_congr fun p _ => ?_
      rw [Nat.testBit_two_pow_sub_one]; simp
    rw [e2, List.filter_eq_self.2 (fun _ _ => rfl), List.length_range] at hlt
    omega
theorem take_room (g : l.a.Good) (h : l.Calm) {n : Int} (hc : 0 ≤ gc n) :
    (l.take n).2.2 = 0 ↔ ∃ s : Nat, 1 ≤ s ∧ s < l.a.n ∧ (l.a.cls s < 0 ∨ l.a.cls s = gc n ∧ (popF 64 (l.a.tk s) : Int) < gp (gc n)) := by
  rcases take_ways h hc with ⟨j, j1, j2, j3, j4, e⟩ | ⟨hn, ⟨j, j1, j2, j3, _, e⟩ | ⟨ha, e⟩⟩
  · rw [e]
    refine ⟨fun _ => ⟨j, j1, j2, Or.inr ?_⟩, fun _ => rfl⟩
    rw [l.a.clsI_at j1 j2] at j3
    obtain ⟨k1, k2⟩ := (takeE0 j1 j2).1 j4
    have := (full_pop g k1).1 k2
    rw [j3] at this
    exact ⟨j3, this⟩
  · rw [e]
    exact ⟨fun _ => ⟨j, j1, j2, Or.inl j3⟩, fun _ => rfl⟩
  · rw [e]
    refine ⟨fun h => absurd h (show ¬ (5 : Int) = 0 by decide), ?_⟩
    rintro ⟨s, s1, s2, s3 | ⟨s3, s4⟩⟩
    · have := ha s s1 s2
      omega
    · exact absurd ((takeE0 s1 s2).2 ⟨ha s s1 s2, (full_pop g (ha s s1 s2)).2 (by rw [s3]; exact s4)⟩) (hn s s1 s2 (by rw [l.a.clsI_at s1 s2]; exact s3))
end
end Go.Proofs.YtinehimleldkdaaGreatDoor

/- The closure of mark's Reach: what is found, each once. -/
namespace Go.Proofs.YtinehimleldkdaaGreatDoor
set_option maxRecDepth 100000
open Go.ChangeShapes Go.WideShapes Go.ChangeAt Go.RowKit Go.Maps

/-- What is found behind a visit. -/
def vis (is : Int → Bool) (m : List Int) : List Int → List Int
  | [] => m
  | y :: r => vis is (if is y = true ∧ y ∉ m then m ++ [y] else m) r
theorem vis_snoc (is : Int → Bool) : ∀ (l : List Int) (m : List Int) (y : Int), vis is m (l ++ [y]) = (if is y = true ∧ y ∉ vis is m l then vis is m l ++ [y] else vis is m l)
  | [], _, _ => rfl
  | x :: r, m, y => by
    rw [List.cons_append]
    unfold vis
    exact vis_snoc is r _ y

theorem vis_len (is : Int → Bool) : ∀ (l : List Int) (m : List Int), (vis is m l).length ≤ m.length + l.length
  | [], m => by simp [vis]
  | x :: r, m => by
    unfold vis
    refine Nat.le_trans (vis_len is r _) ?_
    split
    · simp; omega
    · simp
theorem key64 : Keyed Tryz.prog 2 := int_keyed Tryz.underlying2
theorem zero_unit (w : World) : (zeroValue 90).run Tryz.prog w = .ok (.agg #[]) w := by kernel_rfl
abbrev wfI (y : Int) : Prop := (Lit.int .i64 y).wf = true

/-- While Reach goes on: the captured variables (m: vm, seen: vs, found: vf, which holds the slice cv), the map, the row. -/
structure RcG (w wr : World) (kb vm vf vs mb : Nat) (cv : Value) (ao : Option Addr) (cap : Nat) (fnd ms : List Int) : Prop where
  g : G w wr
  cm : wr.cell? ⟨vm, 0, none⟩ = some (.pointer (some ⟨kb, 0, none⟩))
  cf : wr.cell? ⟨vf, 0, none⟩ = some cv
  ff : wr.frozen? ⟨vf, 0, none⟩ = false
  cs : wr.cell? ⟨vs, 0, none⟩ = some (.map (some mb))
  row : Gy.RowW wr w.heap.size ao cap fnd
  map : ∃ D : DataW Unit, wr.ownsMap Tryz.prog 2 unitElem mb ms.length D ∧ ∀ y, wfI y → Maps.has D (.int .i64 y) = decide (y ∈ ms)
  lo : w.heap.size ≤ vm ∧ w.heap.size ≤ vf ∧ w.heap.size ≤ vs ∧ w.heap.size ≤ mb
  n1 : vf ≠ vm ∧ vf ≠ vs ∧ mb ≠ vm ∧ mb ≠ vf ∧ mb ≠ vs
  n2 : vm ∉ Gy.blk ao ∧ vf ∉ Gy.blk ao ∧ vs ∉ Gy.blk ao ∧ mb ∉ Gy.blk ao
abbrev RcS (w wr : World) (kb vm vf vs mb : Nat) (ao : Option Addr) (cap : Nat) (fnd : List Int) : Prop := RcG w wr kb vm vf vs mb (.slice ao fnd.length cap) ao cap fnd fnd
section
variable {w wr wr' : World} {kb vm vf vs mb : Nat} {cv cv' : Value} {ao ao' : Option Addr} {cap cap' : Nat} {fnd fnd' ms : List Int}
theorem ownsMap_block {n : Nat} {D : DataW Unit} (h : wr.ownsMap Tryz.prog 2 unitElem mb n D) (e : wr'.heap[mb]? = wr.heap[mb]?) : wr'.ownsMap Tryz.prog 2 unitElem mb n D := by
  obtain ⟨es, clock, hb, r⟩ := h
  exact ⟨es, clock, e.trans hb, r⟩
theorem RcG.lt (h : RcG w wr kb vm vf vs mb cv ao cap fnd ms) : vm < wr.heap.size ∧ vf < wr.heap.size ∧ vs < wr.heap.size ∧ mb < wr.heap.size := by
  obtain ⟨D, h1, _⟩ := h.map
  exact ⟨World.block_lt_of_cell? _ _ h.cm, World.block_lt_of_cell? _ _ h.cf, World.block_lt_of_cell? _ _ h.cs, h1.lt⟩
theorem RcG.gr (h : RcG w wr kb vm vf vs mb cv ao cap fnd ms) (g : G wr wr') : RcG w wr' kb vm vf vs mb cv ao cap fnd ms := by
  refine ⟨h.g.trans g, g.cell h.cm, g.cell h.cf, (World.frozen?_of_block (a := ⟨vf, 0, none⟩) (g.block _ h.lt.2.1)).trans h.ff, g.cell h.cs, h.row.kept fun d hd => g.block d (h.row.lo d hd).2, ?_, h.lo, h.n1, h.n2⟩
  obtain ⟨D, h1, h2⟩ := h.map
  exact ⟨D, ownsMap_block h1 (g.block _ h1.lt), h2⟩
/-- The map has one more. -/
theorem RcG.put {y : Int} {D : DataW Unit} (h : RcG w wr kb vm vf vs mb cv ao cap fnd ms) (hy : wfI y) (hD : wr.ownsMap Tryz.prog 2 unitElem mb ms.length D) (hh : ∀ y, wfI y → Maps.has D (.int .i64 y) = decide (y ∈ ms))
    (hm : wr'.ownsMap Tryz.prog 2 unitElem mb (ms.length + 1) (D.put (.int .i64 y) (.agg []))) (hg : wr.grownBy wr' (some mb)) : RcG w wr' kb vm vf vs mb cv ao cap fnd (ms ++ [y]) := by
  have hlt := h.lt
  have hk : ∀ d, d < wr.heap.size → d ≠ mb → wr'.heap[d]? = wr.heap[d]? := fun d hd hne => hg.block d hd (by simp; omega)
  have hl := h.lo
  have n1 := h.n1
  have kvm := hk vm hlt.1 (by omega)
  have kvf := hk vf hlt.2.1 (by omega)
  have kvs := hk vs hlt.2.2.1 (by omega)
  refine ⟨⟨hg.os.trans h.g.os, hg.tape.trans h.g.tape, hg.output.trans h.g.output, Nat.le_trans h.g.size hg.size, fun k hk2 => (hk k (Nat.lt_of_lt_of_le hk2 h.g.size) (by omega)).trans (h.g.block k hk2)⟩,
    (World.cell?_of_block (a := ⟨vm, 0, none⟩) kvm).trans h.cm, (World.cell?_of_block (a := ⟨vf, 0, none⟩) kvf).trans h.cf, (World.frozen?_of_block (a := ⟨vf, 0, none⟩) kvf).trans h.ff, (World.cell?_of_block (a := ⟨vs, 0, none⟩) kvs).trans h.cs,
    h.row.kept fun d hd => hk d (h.row.lo d hd).2 fun e => h.n2.2.2.2 (e ▸ hd), ⟨_, by rw [List.length_append]; exact hm, fun z hz => ?_⟩, h.lo, h.n1, h.n2⟩
  by_cases e : z = y
  · subst e
    rw [Maps.has_put_same hD.isMap (key64.key (keyOf_int_mk Tryz.underlying2 hy))]
    simp
  · rw [Maps.has_put_other (by simpa using e), hh z hz]
    simp [e]
/-- The row has one more. -/
theorem RcG.app (h : RcG w wr kb vm vf vs mb cv ao cap fnd ms) (a : Gy.App wr wr' w.heap.size ao ao' cap' fnd') : RcG w wr' kb vm vf vs mb cv ao' cap' fnd' ms := by
  obtain ⟨r, hb, gx⟩ := a
  have hlt := h.lt
  have n2 := h.n2
  have kvm := gx.block vm hlt.1 n2.1
  have kvf := gx.block vf hlt.2.1 n2.2.1
  have kvs := gx.block vs hlt.2.2.1 n2.2.2.1
  have kmb := gx.block mb hlt.2.2.2 n2.2.2.2
  refine ⟨⟨gx.os.trans h.g.os, gx.tape.trans h.g.tape, gx.output.trans h.g.output, Nat.le_trans h.g.size gx.size, fun k hk => (gx.block k (Nat.lt_of_lt_of_le hk h.g.size) fun hm => by have := (h.row.lo k hm).1; omega).trans (h.g.block k hk)⟩,
    (World.cell?_of_block (a := ⟨vm, 0, none⟩) kvm).trans h.cm, (World.cell?_of_block (a := ⟨vf, 0, none⟩) kvf).trans h.cf, (World.frozen?_of_block (a := ⟨vf, 0, none⟩) kvf).trans h.ff, (World.cell?_of_block (a := ⟨vs, 0, none⟩) kvs).trans h.cs, r, ?_, h.lo, h.n1, ?_⟩
  · obtain ⟨D, h1, h2⟩ := h.map
    exact ⟨D, ownsMap_block h1 kmb, h2⟩
  · rcases hb with e | e
    · rw [e]; exact n2
    · rw [e]; simp; omega
/-- The variable holds the row. -/
theorem RcG.store (h : RcG w wr kb vm vf vs mb cv ao cap fnd ms) : RcG w (wr.setCell ⟨vf, 0, none⟩ cv') kb vm vf vs mb cv' ao cap fnd ms := by
  have n1 := h.n1
  have hl := h.lo
  refine ⟨h.g.setCell hl.2.1 _, (cell_other _ (Or.inl (by omega))).trans h.cm, cell_same _ h.cf, by rw [World.frozen?_setCell]; exact h.ff, (cell_other _ (Or.inl (by omega))).trans h.cs, h.row.kept fun d hd => ?_, ?_, h.lo, h.n1, h.n2⟩
  · exact Below.heap_setCell _ _ _ _ fun (e : d = vf) => h.n2.2.1 (e ▸ hd)
  · obtain ⟨D, h1, h2⟩ := h.map
    exact ⟨D, h1.setCell (by show mb ≠ vf; omega) _, h2⟩
/-- A row that is read stays, too. -/
theorem IsI_kept {bo : Option Addr} {ys : List Int} (h : Gy.IsI wr bo ys) (k : Kd wr wr' (Gy.blk bo)) (hs : wr.heap.size ≤ wr'.heap.size) : Gy.IsI wr' bo ys := by
  rcases h with h | ⟨b, off, rfl, h2, h3⟩
  · exact Or.inl h
  · exact Or.inr ⟨b, off, rfl, Nat.lt_of_lt_of_le h2 hs, fun i x hi => (World.cell?_of_block (a := ⟨b, off + i, none⟩) (k b (by simp [Gy.blk]))).trans (h3 i x hi)⟩

/-! ### the closure -/
set_option maxHeartbeats 4000000 in
theorem visit_core (w w0 : World) (kb ab vm vf vs mb : Nat) (ao0 bo : Option Addr) (cap0 cb n : Nat) (fnd0 ys : List Int) (is : Int → Bool) (hn : ys.length = n) (hn5 : n ≤ 1000) (hf0 : fnd0.length + n ≤ 1000)
    (cmk : w.cell? ⟨kb, 0, none⟩ = some (.pointer (some ⟨ab, 0, none⟩))) (C : Hid (∀ y w1, G w w1 → Calls Tryz.prog 24 #[.pointer (some ⟨ab, 0, none⟩), .int .i64 y] w1 fun r w' => r = .returned (.bool (is y)) ∧ G w1 w'))
    (hw : Hid (∀ y ∈ ys, wfI y)) (S0 : Hid (RcS w w0 kb vm vf vs mb ao0 cap0 fnd0)) (hI : Hid (Gy.IsI w0 bo ys)) (hbo : Hid (∀ d ∈ Gy.blk bo, d < w0.heap.size ∧ d ≠ mb ∧ d ≠ vf ∧ d ∉ Gy.blk ao0)) :
    Calls Tryz.prog 44 #[.slice bo n cb, .pointer (some ⟨vs, 0, none⟩), .pointer (some ⟨vm, 0, none⟩), .pointer (some ⟨vf, 0, none⟩)] w0 fun r w' => r = .returned (.tuple #[]) ∧ ∃ ao cap, RcS w w' kb vm vf vs mb ao cap (vis is fnd0 ys) := by
  go_enter Tryz.func44, Tryz.ntmps44
  go_wp2_with fail
  go_loopw [11] (fun i wr => ∃ (j : Nat) (ao : Option Addr) (cap : Nat), i = .int .i64 (j : Int) ∧ j ≤ n ∧ Hid (RcS w wr kb vm vf vs mb ao cap (vis is fnd0 (ys.take j))) ∧ Hid (Gy.IsI wr bo ys) ∧ Hid (∀ d ∈ Gy.blk bo, d < wr.heap.size ∧ d ≠ mb ∧ d ≠ vf ∧ d ∉ Gy.blk ao))
    (fun i _ => n - (intOf i).toNat)
  case atStart => exact ⟨0, ao0, cap0, rfl, Nat.zero_le _, by rw [List.take_zero]; exact S0, hI, hbo⟩
  case round =>
    obtain ⟨j, ao, cap, rfl, hj, S, I, hb⟩ := hrel
    clear S0 hI hbo
    by_cases hlt : j < n
    · obtain ⟨y, g, off, hy, rfl, cy⟩ := (unhide I).at_ (i := j) (by omega)
      have hmem : y ∈ ys := List.mem_of_getElem? hy
      have hwy := unhide hw y hmem
      have hkey : keyOf Tryz.prog 2 (.int .i64 y) = some (.int .i64 y) := keyOf_int_mk Tryz.underlying2 hwy
      obtain ⟨D, hown, hhas⟩ := (unhide S).map
      have hh := hhas y hwy
      have hown' := hide hown
      have hhas' := hide hhas
      have cs := (unhide S).cs
      have cm := (unhide S).cm
      have ck := (unhide S).g.cell cmk
      have hlv := (unhide S).lt
      have l1 := hlv.1
      have l2 := hlv.2.2.1
      have l3 : kb < wr.heap.size := World.block_lt_of_cell? _ _ ck
      have hT : Hid (ys.take (j + 1) = ys.take j ++ [y]) := hide (by rw [List.take_add_one, hy]; rfl)
      obtain ⟨fnd, hfd⟩ : ∃ fnd, vis is fnd0 (ys.take j) = fnd := ⟨_, rfl⟩
      rw [hfd] at S hown hhas hh hown' hhas'
      have hfl : fnd.length + 1 ≤ 1000 := by have := vis_len is (ys.take j) fnd0; rw [hfd, List.length_take] at this; omega
      have hV : Hid (vis is fnd0 (ys.take (j + 1)) = if is y = true ∧ y ∉ fnd then fnd ++ [y] else fnd) := hide (by rw [unhide hT, vis_snoc, hfd])
      obtain ⟨k, hk⟩ : ∃ k, fnd.length = k := ⟨_, rfl⟩
      rw [hk] at hown
      clear hlv hhas hfd
      replace hk := hide hk
      by_cases hm : y ∈ fnd
      · rw [decide_eq_true hm] at hh
        have hV2 : Hid (vis is fnd0 (ys.take (j + 1)) = fnd) := hide (by rw [unhide hV, if_neg (fun h => h.2 hm)])
        clear hV
        go_wp2_with (at_lookup; refine wpList_lookup_own_unit _ rfl _ _ 89 rfl 2 90 key64 Tryz.underlying89 (zero_unit _) mb k D rfl hown _ _ rfl hkey ?_; rw [hh])
        go_roundw
        case rel =>
          refine ⟨j + 1, ao, cap, by go_num, by omega, hide (by rw [unhide hV2]; exact (unhide S).gr (by first | exact G.refl _ | exact G.alloc _ _)), hide ((unhide I).g (by first | exact G.refl _ | exact G.alloc _ _)), hide fun d hd => ?_⟩
          have := unhide hb d hd
          exact ⟨by first | exact this.1 | (rw [World.size_alloc]; omega), this.2⟩
        case measure => simp [intOf]; omega
      · rw [decide_eq_false hm] at hh
        have hsb : w.heap.size ≤ wr.heap.size := (unhide S).g.size
        go_wp2_with (at_lookup; refine wpList_lookup_own_unit _ rfl _ _ 89 rfl 2 90 key64 Tryz.underlying89 (zero_unit _) mb k D rfl hown _ _ rfl hkey ?_; rw [hh])
        refine (unhide C y _ ((unhide S).g.more _)).mono ?_
        rintro r w2 ⟨rfl, g2⟩
        have g2' : G wr w2 := (G.alloc wr _).trans g2
        have S2 := hide ((unhide S).gr g2')
        have I2 := hide ((unhide I).g g2')
        have b2 : Hid (∀ d ∈ Gy.blk (some ⟨g, off, none⟩), d < w2.heap.size ∧ d ≠ mb ∧ d ≠ vf ∧ d ∉ Gy.blk ao) := hide fun d hd => ⟨Nat.lt_of_lt_of_le (unhide hb d hd).1 g2'.size, (unhide hb d hd).2⟩
        have hown2 := ownsMap_block (wr' := w2) (unhide hown') (g2'.block _ (unhide hown').lt)
        have ho2 := hide hown2
        rw [unhide hk] at hown2
        clear g2 g2' cs cm ck l1 l2 l3 cy S I hb hown hown' hsb
        cases hi : is y
        · have hV2 : Hid (vis is fnd0 (ys.take (j + 1)) = fnd) := hide (by rw [unhide hV, if_neg (fun h => by rw [hi] at h; cases h.1)])
          clear hV
          go_wp2_with fail
          go_roundw
          case rel => exact ⟨j + 1, ao, cap, by go_num, by omega, hide (by rw [unhide hV2]; exact unhide S2), I2, b2⟩
          case measure => simp [intOf]; omega
        · have hV2 : Hid (vis is fnd0 (ys.take (j + 1)) = fnd ++ [y]) := hide (by rw [unhide hV, if_pos ⟨hi, hm⟩])
          clear hV
          have cs := (unhide S2).cs
          have cf := (unhide S2).cf
          have ff := (unhide S2).ff
          rw [unhide hk] at cf
          obtain ⟨k2, hk2⟩ : ∃ k2, k + 1 = k2 := ⟨_, rfl⟩
          replace hk2 := hide hk2
          have hkm : k < maxLen := by have := unhide hk; unfold maxLen; omega
          have hsb : w.heap.size ≤ w2.heap.size := (unhide S2).g.size
          go_wp2_with (first
            | (at_mapUpdate; refine wpList_mapUpdate_own _ rfl _ _ _ 89 rfl 2 90 key64 Tryz.underlying89 (unitElem (H := Unit)) mb k D rfl hown2 hkm _ _ _ rfl rfl hkey _ [] unitElem_mk ?_; intro w3 hm3 hg3; have S3 := hide ((unhide S2).put hwy (unhide ho2) (unhide hhas') (by rw [unhide hk]; exact hm3) hg3); have S4 := hide ((unhide S3).gr (G.alloc w3 (.cells #[.int .i64 y] 2))); have hx : Hid ((w3.alloc (.cells #[.int .i64 y] 2)).cell? ⟨w3.heap.size, 0, none⟩ = some (.int .i64 y)) := hide (World.cell?_alloc_new _ _ _ 0); have cf3 : w3.cell? ⟨vf, 0, none⟩ = some (.slice ao k cap) := (by rw [(unhide S3).cf, unhide hk]); have lf3 : vf < w3.heap.size := (unhide S3).lt.2.1; have s3 := hg3.size; clear cf cs hm3)
            | (at_builtin; refine Gy.wpl_app rfl _ _ rfl k k2 (unhide hk) (unhide hk2) rfl (unhide S4).row (unhide S4).g.size w3.heap.size 1 y rfl (unhide hx) (by omega) ?_; intro ao4 cap4 w4 A; have S5 := hide ((unhide S4).app A); have A5 := hide A; have cf4 := (unhide S5).cf; have ff4 := (unhide S5).ff; clear A cf3 lf3))
          have e2 : (fnd ++ [y]).length = k2 := by have := unhide hk; have := unhide hk2; simp; omega
          have S6 : Hid (RcS w (w4.setCell ⟨vf, 0, none⟩ (.slice ao4 k2 cap4)) kb vm vf vs mb ao4 cap4 (fnd ++ [y])) := hide (by unfold RcS; rw [e2]; exact (unhide S5).store)
          have hz4 : w3.heap.size + 1 ≤ w4.heap.size := by have := (unhide A5).2.2.size; rw [World.size_alloc] at this; exact this
          have hd6 : ∀ d ∈ Gy.blk (some ⟨g, off, none⟩), d < w4.heap.size ∧ (w4.setCell ⟨vf, 0, none⟩ (.slice ao4 k2 cap4)).heap[d]? = w2.heap[d]? ∧ d ∉ Gy.blk ao4 := fun d hd => by
            obtain ⟨h1, h2, h3, h4⟩ := unhide b2 d hd
            refine ⟨by omega, ?_, ?_⟩
            · rw [Below.heap_setCell _ _ _ _ (by show d ≠ vf; exact h3), (unhide A5).2.2.block d (by rw [World.size_alloc]; omega) h4, Below.heap_alloc _ _ _ (by omega)]
              exact hg3.block d h1 (by simp; omega)
            · rcases (unhide A5).2.1 with e | e
              · rw [e]; exact h4
              · rw [e, World.size_alloc]; simp; omega
          have I6 : Hid (Gy.IsI (w4.setCell ⟨vf, 0, none⟩ (.slice ao4 k2 cap4)) (some ⟨g, off, none⟩) ys) := hide (IsI_kept (unhide I2) (fun d hd => (hd6 d hd).2.1) (by rw [World.size_setCell]; omega))
          replace hd6 := hide hd6
          go_roundw
          case rel => exact ⟨j + 1, ao4, cap4, by go_num, by omega, hide (by rw [unhide hV2]; exact unhide S6), I6, hide fun d hd => ⟨by rw [World.size_setCell]; exact (unhide hd6 d hd).1, (unhide b2 d hd).2.1, (unhide b2 d hd).2.2.1, (unhide hd6 d hd).2.2⟩⟩
          case measure => simp [intOf]; omega
    · go_wp2_with fail
      go_end0
      have : j = n := by omega
      subst this
      rw [List.take_of_length_le (by omega)] at S
      exact ⟨rfl, ao, cap, unhide S⟩
end
end Go.Proofs.YtinehimleldkdaaGreatDoor

/- PLAIN: what world makes of its things. -/
namespace Go.Proofs.YtinehimleldkdaaGreatDoor
set_option maxRecDepth 100000

theorem gc_fit {n : Int} (h1 : 1 ≤ n) (h2 : n ≤ 64) : 0 ≤ gc n ∧ n ≤ gw (gc n) := by
  unfold gc
  repeat' split
  all_goals (unfold gw; simp; omega)
theorem took_at {b : Ab} (g : b.Good) {j : Nat} (e : b.takeE j = 0) : (∀ s, (b.takeA j).clsI s = b.clsI s) ∧ (∀ y, (b.takeA j).wd y = b.wd y ∨ (b.takeA j).wd y = 0) ∧ (b.takeA j).mr = b.mr ∧ gs (b.takeV j) = j ∧ 0 < b.takeV j ∧ b.takeV j ≤ 40000 := by
  obtain ⟨k, p, ek, ef, k1, k2, k3, k4, k5, k6, _⟩ := g.free e
  have n1 := g.ok.n1
  have c5 := (g.ok.cr k).2
  obtain ⟨e1, e2, e3, e4⟩ := ga_at (s := k) (p := p) k1 (by omega) k3 c5 k6
  have eA : b.takeA j = b.take k p := by unfold Ab.takeA; rw [if_pos e, ef, ek]; rfl
  have eV : b.takeV j = ga k p (b.cls k) := by unfold Ab.takeV; rw [if_pos e, ef, ek, show b.clsI (k : Int) = b.cls k by rw [← ek]; exact k4]
  have hw := gw_gp (b.cls k)
  refine ⟨fun s => by rw [eA]; rfl, fun y => ?_, by rw [eA]; rfl, by rw [eV, e2]; exact ek.symm, by rw [eV]; exact e4, ?_⟩
  · rw [eA]
    show (if _ then (0 : Int) else b.wd y) = _ ∨ (if _ then (0 : Int) else b.wd y) = 0
    split
    · exact Or.inr rfl
    · exact Or.inl rfl
  · rw [eV, e1]
    rcases hw with ⟨_, h⟩ | ⟨h, h2, h3, h4, h5, _⟩
    · omega
    · have : (p : Int) * gw (b.cls k) ≤ gp (b.cls k) * gw (b.cls k) := Int.mul_le_mul_of_nonneg_right (by omega) (by omega)
      have h6 : gp (b.cls k) * gw (b.cls k) = 64 := by rw [Int.mul_comm]; exact h
      omega
theorem wf_small {v : Int} (h1 : -1000000 ≤ v) (h2 : v ≤ 1000000) : wfI v := WalkArith.wf_i64 (n := v) (by omega)

/-- What world's takings keep. -/
structure TkO (al : Al) : Prop where
  good : al.a.Good
  calm : al.Calm
  wf : ∀ y, wfI (al.a.wd y)
  mr : ∀ s, al.a.mr s = 0
theorem al0_o {n : Nat} (h8 : 8 ≤ n) (h5 : n ≤ 512) : TkO (al0 n) := ⟨ab0_good h8 h5, fun _ => rfl, fun _ => wf_small (by show (-1000000 : Int) ≤ 0; decide) (by show (0 : Int) ≤ 1000000; decide), fun _ => rfl⟩
theorem TkO.take {al : Al} (h : TkO al) {n : Int} (h1 : 1 ≤ n) (h2 : n ≤ 64) : TkO (al.take n).1 ∧ (∀ s, 0 ≤ al.a.clsI s → (al.take n).1.a.clsI s = al.a.clsI s) ∧ ((al.take n).2.2 = 0 → wfI (al.take n).2.1 ∧ 0 < (al.take n).2.1 ∧ n ≤ gw ((al.take n).1.a.clsI (gs (al.take n).2.1)) ∧ 0 ≤ (al.take n).1.a.clsI (gs (al.take n).2.1)) := by
  obtain ⟨c0, cw⟩ := gc_fit h1 h2
  have hg := Al.take_good h.good n
  have hc := take_calm h.calm n
  rcases take_ways h.calm c0 with ⟨j, j1, j2, j3, j4, e⟩ | ⟨_, ⟨j, j1, j2, j3, _, e⟩ | ⟨_, e⟩⟩
  · obtain ⟨t1, t2, t3, t4, t5, t6⟩ := took_at h.good j4
    rw [e] at hg hc ⊢
    refine ⟨⟨hg, hc, fun y => ?_, fun s => by show (al.a.takeA j).mr s = 0; rw [t3]; exact h.mr s⟩, fun s _ => t1 s, fun _ => ⟨wf_small (by show (-1000000 : Int) ≤ al.a.takeV j; omega) (by show al.a.takeV j ≤ 1000000; omega), t5, ?_, ?_⟩⟩
    · show wfI ((al.a.takeA j).wd y)
      rcases t2 y with e2 | e2
      · rw [e2]; exact h.wf y
      · rw [e2]; exact wf_small (by decide) (by decide)
    · show n ≤ gw ((al.a.takeA j).clsI (gs (al.a.takeV j)))
      rw [t1, t4, j3]; exact cw
    · show 0 ≤ (al.a.takeA j).clsI (gs (al.a.takeV j))
      rw [t1, t4, j3]; exact c0
  · obtain ⟨eA, eT, _⟩ := first_ok (l := al) j1 j2 j3 c0 (gc_r n).2
    have gs' : (al.a.set j (gc n)).Good := by rw [← eA]; exact h.good.setA' j (gc n)
    obtain ⟨t1, t2, t3, t4, t5, t6⟩ := took_at gs' eT
    have ecl : (al.a.set j (gc n)).clsI (j : Int) = gc n := by
      rw [Ab.clsI_at _ j1 (by exact j2)]
      exact upd_same _ _ _
    rw [e] at hg hc ⊢
    refine ⟨⟨hg, hc, fun y => ?_, fun s => ?_⟩, fun s hs => ?_, fun _ => ⟨wf_small (by show (-1000000 : Int) ≤ (al.a.set j (gc n)).takeV j; omega) (by show (al.a.set j (gc n)).takeV j ≤ 1000000; omega), t5, ?_, ?_⟩⟩
    · show wfI (((al.a.set j (gc n)).takeA j).wd y)
      rcases t2 y with e2 | e2
      · rw [e2]; exact h.wf y
      · rw [e2]; exact wf_small (by decide) (by decide)
    · show ((al.a.set j (gc n)).takeA j).mr s = 0
      rw [t3]
      show upd al.a.mr j 0 s = 0
      by_cases es : s = j
      · subst es; exact upd_same _ _ _
      · rw [upd_other _ _ es]; exact h.mr s
    · show ((al.a.set j (gc n)).takeA j).clsI s = al.a.clsI s
      rw [t1]
      unfold Ab.clsI at hs ⊢
      show (if 1 ≤ s ∧ s < al.a.n then upd al.a.cls j (gc n) s.toNat else -1) = _
      split
      · rename_i hh
        rw [if_pos hh] at hs
        rw [upd_other _ _ (by rintro e3; rw [e3] at hs; omega)]
      · rfl
    · show n ≤ gw (((al.a.set j (gc n)).takeA j).clsI (gs ((al.a.set j (gc n)).takeV j)))
      rw [t1, t4, ecl]; exact cw
    · show 0 ≤ ((al.a.set j (gc n)).takeA j).clsI (gs ((al.a.set j (gc n)).takeV j))
      rw [t1, t4, ecl]; exact c0
  · rw [e]
    exact ⟨h, fun _ _ => rfl, fun h0 => by simp at h0⟩

structure Th where
  sh : Int
  wd : Int
  to : List Int
def Th.sz (t : Th) : Int := szI t.sh t.wd
/-- One taking: the address, or nought. -/
def takeW (al : Al) (n : Int) : Al × Int := ((al.take n).1, if (al.take n).2.2 = 0 then (al.take n).2.1 else 0)
def tkJ (al : Al) (l : List Th) : Nat → Al × List Int
  | 0 => (al, [])
  | j + 1 => match l[j]? with
    | some t => ((takeW (tkJ al l j).1 t.sz).1, (tkJ al l j).2 ++ [(takeW (tkJ al l j).1 t.sz).2])
    | none => tkJ al l j
def knd (k : Nat) : Int := if k < 4 then 0 else 1
def fval (at_ : List Int) (z : Int) : Int := if 0 ≤ z ∧ z < at_.length then at_.getD z.toNat 0 else z
def wrA (al : Al) (x j v : Int) : Al := ⟨al.a.writeA x j v, al.u⟩
def wrF (at_ to : List Int) (x : Int) (al : Al) : Nat → Al
  | 0 => al
  | f + 1 => wrA (wrF at_ to x al f) x ((1 + f : Nat) : Int) (fval at_ (to.getD f 0))
def Th.head (t : Th) : Int := Hd.pkV t.sz (knd (thk t.sh)) (thk t.sh)
def Th.nf (t : Th) : Nat := min t.to.length (t.sz - 1).toNat
def wr1 (at_ : List Int) (t : Th) (x : Int) (al : Al) : Al := if x = 0 then al else wrF at_ t.to x (wrA al x ((0 : Nat) : Int) t.head) t.nf
def wrJ (at_ : List Int) (l : List Th) (al : Al) : Nat → Al
  | 0 => al
  | j + 1 => match l[j]? with
    | some t => wr1 at_ t (at_.getD j 0) (wrJ at_ l al j)
    | none => wrJ at_ l al j
def wld (n : Nat) (l : List Th) : Al × List Int := (wrJ (tkJ (al0 n) l l.length).2 l (tkJ (al0 n) l l.length).1 l.length, (tkJ (al0 n) l l.length).2)

/-- Behind j takings. -/
structure TkI (l : List Th) (j : Nat) (p : Al × List Int) : Prop where
  o : TkO p.1
  len : p.2.length = j
  wf : ∀ x ∈ p.2, wfI x
  room : ∀ (i : Nat) t x, l[i]? = some t → p.2[i]? = some x → x ≠ 0 → 0 ≤ p.1.a.clsI (gs x) ∧ t.sz ≤ gw (p.1.a.clsI (gs x))
theorem tk_start {n : Nat} (h8 : 8 ≤ n) (h5 : n ≤ 512) (l : List Th) : TkI l 0 (tkJ (al0 n) l 0) := ⟨al0_o h8 h5, rfl, (fun x hx => by cases hx), fun i t x _ hx => by simp [tkJ] at hx⟩
theorem tkJ_succ {al : Al} {l : List Th} {j : Nat} {t : Th} (ht : l[j]? = some t) : tkJ al l (j + 1) = ((takeW (tkJ al l j).1 t.sz).1, (tkJ al l j).2 ++ [(takeW (tkJ al l j).1 t.sz).2]) := by
  show (match l[j]? with | some t => _ | none => _) = _
  rw [ht]
theorem TkI.step {al : Al} {l : List Th} {j : Nat} {t : Th} (h : TkI l j (tkJ al l j)) (ht : l[j]? = some t) : TkI l (j + 1) (tkJ al l (j + 1)) := by
  obtain ⟨s1, s2⟩ := szI_r t.sh t.wd
  obtain ⟨o, k, v⟩ := h.o.take (n := t.sz) s1 s2
  rw [tkJ_succ ht]
  refine ⟨o, by simp [h.len], fun x hx => ?_, fun i t' x hi hx h0 => ?_⟩
  · rcases List.mem_append.1 hx with e | e
    · exact h.wf x e
    · simp at e
      subst e
      unfold takeW
      simp only
      split
      · exact (v (by assumption)).1
      · exact wf_small (by decide) (by decide)
  · simp only at hx ⊢
    rcases Nat.lt_trichotomy i j with e | e | e
    · rw [List.getElem?_append_left (by rw [h.len]; exact e)] at hx
      obtain ⟨r1, r2⟩ := h.room i t' x hi hx h0
      have := k (gs x) r1
      exact ⟨by show 0 ≤ ((tkJ al l j).1.take t.sz).1.a.clsI (gs x); rw [this]; exact r1, by show t'.sz ≤ gw (((tkJ al l j).1.take t.sz).1.a.clsI (gs x)); rw [this]; exact r2⟩
    · subst e
      rw [ht] at hi
      injection hi with hi
      subst hi
      have hl := h.len
      rw [List.getElem?_append_right (by omega), hl] at hx
      simp at hx
      unfold takeW at hx
      simp only at hx
      split at hx
      · subst hx
        obtain ⟨_, _, v3, v4⟩ := v (by assumption)
        exact ⟨v4, v3⟩
      · exact absurd hx.symm h0
    · rw [List.getElem?_eq_none (by simp [h.len]; omega)] at hx
      cases hx
end Go.Proofs.YtinehimleldkdaaGreatDoor
