/- PLAIN: an allocator as chapter 5 tells of it; no Go in it. -/
import Derived.Test.YtgflkpccddfalaaGreatDoorSweepsPlain
namespace Go.Proofs.YtgflkpccddfalaaGreatDoor
set_option maxRecDepth 100000

/-- An allocator: its arena, which spans are unswept. -/
structure Al where
  a : Ab
  u : Nat → Bool

def Al.sweep (l : Al) (s : Nat) : Al := ⟨l.a.sweepA s, upd l.u s false⟩
def Al.swp (l : Al) (s : Nat) : Al := if l.u s = true then l.sweep s else l

/-- The spans of a class, k of them from s on: what is left of the allocator, the place, whether there is one. -/
def Al.toc (c : Int) : Nat → Nat → Al → Al × Int × Bool
  | 0, _, l => (l, 0, false)
  | k + 1, s, l =>
    if l.a.clsI s = c then
      if (l.swp s).a.takeE s = 0 then (⟨(l.swp s).a.takeA s, (l.swp s).u⟩, (l.swp s).a.takeV s, true) else Al.toc c k (s + 1) (l.swp s)
    else Al.toc c k (s + 1) l
/-- The least span without a class, k of them from s on. -/
def Ab.wo (a : Ab) : Nat → Nat → Option Nat
  | 0, _ => none
  | k + 1, s => if 0 ≤ a.clsI s then Ab.wo a k (s + 1) else some s
/-- The unswept spans, k of them from s on, until one has no class then. -/
def Al.sof : Nat → Nat → Al → Al × Option Nat
  | 0, _, l => (l, none)
  | k + 1, s, l => if l.u s = true then (if 0 ≤ (l.sweep s).a.clsI s then Al.sof k (s + 1) (l.sweep s) else (l.sweep s, some s)) else Al.sof k (s + 1) l
/-- A span gets a class: its first place. -/
def Al.first (l : Al) (s : Nat) (c : Int) : Al × Int × Int :=
  if l.a.setE s c = 0 then (⟨(l.a.setA s c).takeA s, upd l.u s false⟩, (l.a.setA s c).takeV s, (l.a.setA s c).takeE s) else (⟨l.a, upd l.u s false⟩, 0, l.a.setE s c)
/-- The third way. -/
def Al.take3 (l : Al) (c : Int) : Al × Int × Int :=
  match (Al.sof l.a.n 0 l).2 with
  | some s => (Al.sof l.a.n 0 l).1.first s c
  | none => ((Al.sof l.a.n 0 l).1, 0, 5)
/-- The second. -/
def Al.take2 (l : Al) (c : Int) : Al × Int × Int :=
  match l.a.wo (l.a.n - 1) 1 with
  | some s => l.first s c
  | none => l.take3 c
def Al.takeC (l : Al) (c : Int) : Al × Int × Int :=
  if (Al.toc c (l.a.n - 1) 1 l).2.2 = true then ((Al.toc c (l.a.n - 1) 1 l).1, (Al.toc c (l.a.n - 1) 1 l).2.1, 0) else (Al.toc c (l.a.n - 1) 1 l).1.take2 c
def Al.take (l : Al) (n : Int) : Al × Int × Int := if gc n < 0 then (l, 0, 1) else l.takeC (gc n)

def Al.stale (l : Al) : Al := ⟨l.a, fun s => decide (0 ≤ l.a.clsI s) || l.u s⟩
/-- How many of the first k are unswept. -/
def unsN (u : Nat → Bool) : Nat → Nat
  | 0 => 0
  | k + 1 => unsN u k + if u k = true then 1 else 0
/-- The least unswept one, k of them from s on. -/
def leastU (u : Nat → Bool) : Nat → Nat → Option Nat
  | 0, _ => none
  | k + 1, s => if u s = true then some s else leastU u k (s + 1)
def Al.sweepOne (l : Al) : Al := match leastU l.u l.a.n 0 with | some s => l.sweep s | none => l
def Al.unsw (l : Al) (s : Int) : Bool := decide (0 ≤ s) && decide (s < l.a.n) && l.u s.toNat
/-- The words taken of the first k spans. -/
def Ab.used (a : Ab) : Nat → Int
  | 0 => 0
  | k + 1 => Ab.used a k + popF 64 (a.tkI (k : Nat)) * gw (a.clsI (k : Nat))
def al0 (n : Nat) : Al := ⟨ab0 n, fun _ => false⟩

/-! ### sizes stay -/
theorem Ab.sweepA_n (a : Ab) (s : Int) : (a.sweepA s).n = a.n := by unfold Ab.sweepA; split <;> rfl
theorem Ab.setA_n (a : Ab) (s c : Int) : (a.setA s c).n = a.n := by unfold Ab.setA; split <;> rfl
theorem Ab.takeA_n (a : Ab) (s : Int) : (a.takeA s).n = a.n := by unfold Ab.takeA; split <;> rfl
theorem Al.swp_n (l : Al) (s : Nat) : (l.swp s).a.n = l.a.n := by
  unfold Al.swp; split
  · exact Ab.sweepA_n _ _
  · rfl
theorem Al.toc_n (c : Int) : ∀ (k s : Nat) (l : Al), (Al.toc c k s l).1.a.n = l.a.n
  | 0, _, _ => rfl
  | k + 1, s, l => by
    unfold Al.toc
    split
    · split
      · exact (Ab.takeA_n _ _).trans (l.swp_n s)
      · exact (Al.toc_n c k (s + 1) _).trans (l.swp_n s)
    · exact Al.toc_n c k (s + 1) l
theorem Al.sof_n : ∀ (k s : Nat) (l : Al), (Al.sof k s l).1.a.n = l.a.n
  | 0, _, _ => rfl
  | k + 1, s, l => by
    unfold Al.sof
    split
    · split
      · exact (Al.sof_n k (s + 1) _).trans (Ab.sweepA_n _ _)
      · exact Ab.sweepA_n _ _
    · exact Al.sof_n k (s + 1) l

/-! ### what every sweeping keeps, taking keeps till the place is found -/
section
variable {P : Ab → Prop}
theorem Al.swp_ind (hs : ∀ a s, P a → P (a.sweepA s)) {l : Al} (s : Nat) (h : P l.a) : P (l.swp s).a := by
  unfold Al.swp; split
  · exact hs _ _ h
  · exact h
theorem Al.toc_ind (hs : ∀ a s, P a → P (a.sweepA s)) (c : Int) : ∀ (k s : Nat) (l : Al), P l.a →
    ((Al.toc c k s l).2.2 = false ∧ P (Al.toc c k s l).1.a) ∨ ((Al.toc c k s l).2.2 = true ∧ ∃ (b : Ab) (t : Nat), P b ∧ b.takeE t = 0 ∧ (Al.toc c k s l).1.a = b.takeA t ∧ (Al.toc c k s l).2.1 = b.takeV t)
  | 0, _, _, h => Or.inl ⟨rfl, h⟩
  | k + 1, s, l, h => by
    unfold Al.toc
    split
    · split
      · rename_i e
        exact Or.inr ⟨rfl, (l.swp s).a, s, Al.swp_ind hs s h, e, rfl, rfl⟩
      · exact Al.toc_ind hs c k (s + 1) _ (Al.swp_ind hs s h)
    · exact Al.toc_ind hs c k (s + 1) l h
theorem Al.sof_ind (hs : ∀ a s, P a → P (a.sweepA s)) : ∀ (k s : Nat) (l : Al), P l.a → P (Al.sof k s l).1.a
  | 0, _, _, h => h
  | k + 1, s, l, h => by
    unfold Al.sof
    split
    · split
      · exact Al.sof_ind hs k (s + 1) _ (hs _ _ h)
      · exact hs _ _ h
    · exact Al.sof_ind hs k (s + 1) l h
theorem Al.first_ind (hset : ∀ a s c, P a → P (a.setA s c)) {l : Al} (s : Nat) (c : Int) (h : P l.a) :
    (¬ (l.first s c).2.2 = 0 ∧ P (l.first s c).1.a) ∨ ((l.first s c).2.2 = 0 ∧ ∃ (b : Ab) (t : Nat), P b ∧ b.takeE t = 0 ∧ (l.first s c).1.a = b.takeA t ∧ (l.first s c).2.1 = b.takeV t) := by
  unfold Al.first
  split
  · by_cases e : (l.a.setA s c).takeE s = 0
    · exact Or.inr ⟨e, l.a.setA s c, s, hset _ _ _ h, e, rfl, rfl⟩
    · refine Or.inl ⟨e, ?_⟩
      show P ((l.a.setA s c).takeA s)
      unfold Ab.takeA
      rw [if_neg e]
      exact hset _ _ _ h
  · rename_i e
    exact Or.inl ⟨e, h⟩
theorem Al.take_ind (hs : ∀ a s, P a → P (a.sweepA s)) (hset : ∀ a s c, P a → P (a.setA s c)) {l : Al} (n : Int) (h : P l.a) :
    (¬ (l.take n).2.2 = 0 ∧ P (l.take n).1.a) ∨ ((l.take n).2.2 = 0 ∧ ∃ (b : Ab) (t : Nat), P b ∧ b.takeE t = 0 ∧ (l.take n).1.a = b.takeA t ∧ (l.take n).2.1 = b.takeV t) := by
  unfold Al.take
  split
  · exact Or.inl ⟨show ¬ (1 : Int) = 0 by decide, h⟩
  · unfold Al.takeC
    rcases Al.toc_ind hs (gc n) (l.a.n - 1) 1 l h with ⟨e, h1⟩ | ⟨e, h1⟩
    · rw [if_neg (by rw [e]; decide)]
      unfold Al.take2
      split
      · exact Al.first_ind hset _ _ h1
      · unfold Al.take3
        have h2 := Al.sof_ind hs (Al.toc (gc n) (l.a.n - 1) 1 l).1.a.n 0 _ h1
        split
        · exact Al.first_ind hset _ _ h2
        · exact Or.inl ⟨show ¬ (5 : Int) = 0 by decide, h2⟩
    · rw [if_pos e]
      exact Or.inr ⟨rfl, h1⟩
end

theorem Ab.Good.sweepA' {a : Ab} (h : a.Good) (s : Int) : (a.sweepA s).Good := by
  unfold Ab.sweepA; split
  · exact h.sweep _
  · exact h
theorem Ab.Good.setA' {a : Ab} (h : a.Good) (s c : Int) : (a.setA s c).Good := by
  unfold Ab.setA; split
  · rename_i e
    unfold Ab.setE at e
    split at e
    · omega
    · rename_i hh
      exact h.set (by omega) (by omega) (by omega)
  · exact h
theorem Al.take_good {l : Al} (h : l.a.Good) (n : Int) : (l.take n).1.a.Good := by
  rcases Al.take_ind (P := Ab.Good) (fun _ s h => h.sweepA' s) (fun _ s c h => h.setA' s c) n h with ⟨_, g⟩ | ⟨_, b, t, g, _, e, _⟩
  · exact g
  · rw [e]; exact g.takeA t
theorem Al.take_n (l : Al) (n : Int) : (l.take n).1.a.n = l.a.n := by
  rcases Al.take_ind (P := fun b => b.n = l.a.n) (fun a s h => (Ab.sweepA_n a s).trans h) (fun a s c h => (Ab.setA_n a s c).trans h) n rfl with ⟨_, g⟩ | ⟨_, b, t, g, _, e, _⟩
  · exact g
  · rw [e, Ab.takeA_n]; exact g
end Go.Proofs.YtgflkpccddfalaaGreatDoor
