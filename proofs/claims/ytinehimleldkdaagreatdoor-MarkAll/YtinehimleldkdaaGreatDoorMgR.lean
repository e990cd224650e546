/- Here: the document's allocator does as the program's: both beside each other. -/
import Derived.Test.YtinehimleldkdaaGreatDoorSweepsPlain
import Derived.Test.YtinehimleldkdaaGreatDoorRefGeom
import Derived.Laws.BitsAllLaws
import Derived.Test.YtinehimleldkdaaGreatDoorPlaysRel
import Derived.Test.YtinehimleldkdaaGreatDoorRefNew
import Derived.Test.YtinehimleldkdaaGreatDoorRefMaps4
/- PLAIN: an allocator as chapter 5 tells of it; no Go in it. -/
namespace Go.Proofs.YtinehimleldkdaaGreatDoor
set_option maxRecDepth 100000

/-- An allocator: its arena, which spans are unswept. -/
structure Al where
  a : Ab
  u : Nat → Bool

def Al.sweep (l : Al) (s : Nat) : Al := ⟨l.a.sweepA s, upd l.u s false⟩
def Al.swp (l : Al) (s : Nat) : Al := if l.u s = true then l.sweep s else l

/-- The spans of a class, k of them from s on: what is left of the allocator, the place, whether there is one. -/
def Al.toc (c : Int) : Nat → Nat → Al → Al × Int × Bool
  | 0, _, l => (l, 0, false)
  | k + 1, s, l =>
    if l.a.clsI s = c then
      if (l.swp s).a.takeE s = 0 then (⟨(l.swp s).a.takeA s, (l.swp s).u⟩, (l.swp s).a.takeV s, true) else Al.toc c k (s + 1) (l.swp s)
    else Al.toc c k (s + 1) l
/-- The least span without a class, k of them from s on. -/
def Ab.wo (a : Ab) : Nat → Nat → Option Nat
  | 0, _ => none
  | k + 1, s => if 0 ≤ a.clsI s then Ab.wo a k (s + 1) else some s
/-- The unswept spans, k of them from s on, until one has no class then. -/
def Al.sof : Nat → Nat → Al → Al × Option Nat
  | 0, _, l => (l, none)
  | k + 1, s, l => if l.u s = true then (if 0 ≤ (l.sweep s).a.clsI s then Al.sof k (s + 1) (l.sweep s) else (l.sweep s, some s)) else Al.sof k (s + 1) l
/-- A span gets a class: its first place. -/
def Al.first (l : Al) (s : Nat) (c : Int) : Al × Int × Int :=
  if l.a.setE s c = 0 then (⟨(l.a.setA s c).takeA s, upd l.u s false⟩, (l.a.setA s c).takeV s, (l.a.setA s c).takeE s) else (⟨l.a, upd l.u s false⟩, 0, l.a.setE s c)
/-- The third way. -/
def Al.take3 (l : Al) (c : Int) : Al × Int × Int :=
  match (Al.sof l.a.n 0 l).2 with
  | some s => (Al.sof l.a.n 0 l).1.first s c
  | none => ((Al.sof l.a.n 0 l).1, 0, 5)
/-- The second. -/
def Al.take2 (l : Al) (c : Int) : Al × Int × Int :=
  match l.a.wo (l.a.n - 1) 1 with
  | some s => l.first s c
  | none => l.take3 c
def Al.takeC (l : Al) (c : Int) : Al × Int × Int :=
  if (Al.toc c (l.a.n - 1) 1 l).2.2 = true then ((Al.toc c (l.a.n - 1) 1 l).1, (Al.toc c (l.a.n - 1) 1 l).2.1, 0) else (Al.toc c (l.a.n - 1) 1 l).1.take2 c
def Al.take (l : Al) (n : Int) : Al × Int × Int := if gc n < 0 then (l, 0, 1) else l.takeC (gc n)

def Al.stale (l : Al) : Al := ⟨l.a, fun s => decide (0 ≤ l.a.clsI s) || l.u s⟩
/-- How many of the first k are unswept. -/
def unsN (u : Nat → Bool) : Nat → Nat
  | 0 => 0
  | k + 1 => unsN u k + if u k = true then 1 else 0
/-- The least unswept one, k of them from s on. -/
def leastU (u : Nat → Bool) : Nat → Nat → Option Nat
  | 0, _ => none
  | k + 1, s => if u s = true then some s else leastU u k (s + 1)
def Al.sweepOne (l : Al) : Al := match leastU l.u l.a.n 0 with | some s => l.sweep s | none => l
def Al.unsw (l : Al) (s : Int) : Bool := decide (0 ≤ s) && decide (s < l.a.n) && l.u s.toNat
/-- The words taken of the first k spans. -/
def Ab.used (a : Ab) : Nat → Int
  | 0 => 0
  | k + 1 => Ab.used a k + popF 64 (a.tkI (k : Nat)) * gw (a.clsI (k : Nat))
def al0 (n : Nat) : Al := ⟨ab0 n, fun _ => false⟩

/-! ### sizes stay -/
theorem Ab.sweepA_n (a : Ab) (s : Int) : (a.sweepA s).n = a.n := by unfold Ab.sweepA; split <;> rfl
theorem Ab.setA_n (a : Ab) (s c : Int) : (a.setA s c).n = a.n := by unfold Ab.setA; split <;> rfl
theorem Ab.takeA_n (a : Ab) (s : Int) : (a.takeA s).n = a.n := by unfold Ab.takeA; split <;> rfl
theorem Al.swp_n (l : Al) (s : Nat) : (l.swp s).a.n = l.a.n := by
  unfold Al.swp; split
  · exact Ab.sweepA_n _ _
  · rfl
theorem Al.toc_n (c : Int) : ∀ (k s : Nat) (l : Al), (Al.toc c k s l).1.a.n = l.a.n
  | 0, _, _ => rfl
  | k + 1, s, l => by
    unfold Al.toc
    split
    · split
      · exact (Ab.takeA_n _ _).trans (l.swp_n s)
      · exact (Al.toc_n c k (s + 1) _).trans (l.swp_n s)
    · exact Al.toc_n c k (s + 1) l
theorem Al.sof_n : ∀ (k s : Nat) (l : Al), (Al.sof k s l).1.a.n = l.a.n
  | 0, _, _ => rfl
  | k + 1, s, l => by
    unfold Al.sof
    split
    · split
      · exact (Al.sof_n k (s + 1) _).trans (Ab.sweepA_n _ _)
      · exact Ab.sweepA_n _ _
    · exact Al.sof_n k (s + 1) l

/-! ### what every sweeping keeps, taking keeps till the place is found -/
section
variable {P : Ab → Prop}
theorem Al.swp_ind (hs : ∀ a s, P a → P (a.sweepA s)) {l : Al} (s : Nat) (h : P l.a) : P (l.swp s).a := by
  unfold Al.swp; split
  · exact hs _ _ h
  · exact h
theorem Al.toc_ind (hs : ∀ a s, P a → P (a.sweepA s)) (c : Int) : ∀ (k s : Nat) (l : Al), P l.a →
    ((Al.toc c k s l).2.2 = false ∧ P (Al.toc c k s l).1.a) ∨ ((Al.toc c k s l).2.2 = true ∧ ∃ (b : Ab) (t : Nat), P b ∧ b.takeE t = 0 ∧ (Al.toc c k s l).1.a = b.takeA t ∧ (Al.toc c k s l).2.1 = b.takeV t)
  | 0, _, _, h => Or.inl ⟨rfl, h⟩
  | k + 1, s, l, h => by
    unfold Al.toc
    split
    · split
      · rename_i e
        exact Or.inr ⟨rfl, (l.swp s).a, s, Al.swp_ind hs s h, e, rfl, rfl⟩
      · exact Al.toc_ind hs c k (s + 1) _ (Al.swp_ind hs s h)
    · exact Al.toc_ind hs c k (s + 1) l h
theorem Al.sof_ind (hs : ∀ a s, P a → P (a.sweepA s)) : ∀ (k s : Nat) (l : Al), P l.a → P (Al.sof k s l).1.a
  | 0, _, _, h => h
  | k + 1, s, l, h => by
    unfold Al.sof
    split
    · split
      · exact Al.sof_ind hs k (s + 1) _ (hs _ _ h)
      · exact hs _ _ h
    · exact Al.sof_ind hs k (s + 1) l h
theorem Al.first_ind (hset : ∀ a s c, P a → P (a.setA s c)) {l : Al} (s : Nat) (c : Int) (h : P l.a) :
    (¬ (l.first s c).2.2 = 0 ∧ P (l.first s c).1.a) ∨ ((l.first s c).2.2 = 0 ∧ ∃ (b : Ab) (t : Nat), P b ∧ b.takeE t = 0 ∧ (l.first s c).1.a = b.takeA t ∧ (l.first s c).2.1 = b.takeV t) := by
  unfold Al.first
  split
  · by_cases e : (l.a.setA s c).takeE s = 0
    · exact Or.inr ⟨e, l.a.setA s c, s, hset _ _ _ h, e, rfl, rfl⟩
    · refine Or.inl ⟨e, ?_⟩
      show P ((l.a.setA s c).takeA s)
      unfold Ab.takeA
      rw [if_neg e]
      exact hset _ _ _ h
  · rename_i e
    exact Or.inl ⟨e, h⟩
theorem Al.take_ind (hs : ∀ a s, P a → P (a.sweepA s)) (hset : ∀ a s c, P a → P (a.setA s c)) {l : Al} (n : Int) (h : P l.a) :
    (¬ (l.take n).2.2 = 0 ∧ P (l.take n).1.a) ∨ ((l.take n).2.2 = 0 ∧ ∃ (b : Ab) (t : Nat), P b ∧ b.takeE t = 0 ∧ (l.take n).1.a = b.takeA t ∧ (l.take n).2.1 = b.takeV t) := by
  unfold Al.take
  split
  · exact Or.inl ⟨show ¬ (1 : Int) = 0 by decide, h⟩
  · unfold Al.takeC
    rcases Al.toc_ind hs (gc n) (l.a.n - 1) 1 l h with ⟨e, h1⟩ | ⟨e, h1⟩
    · rw [if_neg (by rw [e]; decide)]
      unfold Al.take2
      split
      · exact Al.first_ind hset _ _ h1
      · unfold Al.take3
        have h2 := Al.sof_ind hs (Al.toc (gc n) (l.a.n - 1) 1 l).1.a.n 0 _ h1
        split
        · exact Al.first_ind hset _ _ h2
        · exact Or.inl ⟨show ¬ (5 : Int) = 0 by decide, h2⟩
    · rw [if_pos e]
      exact Or.inr ⟨rfl, h1⟩
end

theorem Ab.Good.sweepA' {a : Ab} (h : a.Good) (s : Int) : (a.sweepA s).Good := by
  unfold Ab.sweepA; split
  · exact h.sweep _
  · exact h
theorem Ab.Good.setA' {a : Ab} (h : a.Good) (s c : Int) : (a.setA s c).Good := by
  unfold Ab.setA; split
  · rename_i e
    unfold Ab.setE at e
    split at e
    · omega
    · rename_i hh
      exact h.set (by omega) (by omega) (by omega)
  · exact h
theorem Al.take_good {l : Al} (h : l.a.Good) (n : Int) : (l.take n).1.a.Good := by
  rcases Al.take_ind (P := Ab.Good) (fun _ s h => h.sweepA' s) (fun _ s c h => h.setA' s c) n h with ⟨_, g⟩ | ⟨_, b, t, g, _, e, _⟩
  · exact g
  · rw [e]; exact g.takeA t
theorem Al.take_n (l : Al) (n : Int) : (l.take n).1.a.n = l.a.n := by
  rcases Al.take_ind (P := fun b => b.n = l.a.n) (fun a s h => (Ab.sweepA_n a s).trans h) (fun a s c h => (Ab.setA_n a s c).trans h) n rfl with ⟨_, g⟩ | ⟨_, b, t, g, _, e, _⟩
  · exact g
  · rw [e, Ab.takeA_n]; exact g
end Go.Proofs.YtinehimleldkdaaGreatDoor

/- The contracts of the document's own Class, Bit and Ones (gantlineref1), from stage 5 on. -/
namespace Go.Proofs.YtinehimleldkdaaGreatDoor
set_option maxRecDepth 100000
open Go.RowKit

theorem gc_none (n : Int) (h : n < 1 ∨ 64 < n) : gc n = -1 := by
  unfold gc
  rcases h with h | h
  · rw [if_pos h]
  · repeat rw [if_neg (by omega)]

set_option maxHeartbeats 400000 in
theorem rclass_any (n : Int) (w : World) :
    Calls Tryz.prog 68 #[.int .i64 n] w fun e w' => e = .returned (.int .i64 (gc n)) ∧ G w w' := by
  go_enter Tryz.func68, Tryz.ntmps68
  go_wp2_with fail
  go_loopw [3] (fun c wr => ∃ k : Nat, k ≤ 6 ∧ c = .int .i64 k ∧ Hid (k = 0 ∨ gw ((k : Int) - 1) < n) ∧ Hid (G w wr)) (fun c _ => 7 - (intOf c).toNat)
  case atStart => exact ⟨0, Nat.zero_le _, rfl, hide (Or.inl rfl), hide (G.refl _)⟩
  case round =>
    obtain ⟨k, hk, rfl, HB, HG⟩ := hrel
    by_cases h1 : n < 1
    · have e := gc_none n (Or.inl h1)
      by_cases h6 : k < 6
      · go_wp2_with fail
        go_ret
        exact ⟨ret_int e.symm, unhide HG⟩
      · obtain rfl : k = 6 := by omega
        go_wp2_with fail
        go_ret
        exact ⟨ret_int e.symm, unhide HG⟩
    by_cases h6 : k < 6
    · by_cases hlt : gw (k : Int) < n
      · go_wp2_with fail
        refine (rwords_any _ _).mono ?_
        rintro e w1 ⟨rfl, hgr⟩
        have HG2 := hide ((unhide HG).trans hgr)
        clear hgr HG
        go_wp2_with fail
        go_roundw
        case rel => exact ⟨k + 1, by omega, by go_num, hide (Or.inr (by simpa using hlt)), HG2⟩
        case measure => simp [intOf]; omega
      · have hk5 : gw (k : Int) ≤ 64 := by have := gw_gp k; omega
        go_wp2_with fail
        refine (rwords_any _ _).mono ?_
        rintro e w1 ⟨rfl, hgr⟩
        have HG2 := hide ((unhide HG).trans hgr)
        clear hgr HG
        go_wp2_with fail
        go_ret
        exact ⟨ret_int (gc_at n k (by omega) (by omega) (by omega) (by omega) (by omega) (by have := unhide HB; omega)), unhide HG2⟩
    · obtain rfl : k = 6 := by omega
      have e := gc_none n (Or.inr (by have := unhide HB; simp [gw] at this; exact this))
      go_wp2_with fail
      go_ret
      exact ⟨rfl, unhide HG⟩

/-- Bit i of x. -/
def bitB (x i : Nat) : Bool := x.testBit i
theorem rbit_eq (x i : Nat) (hx : x < 18446744073709551616) : (bits .and .u64 ((x : Int) / 2 ^ i) 1 == 1) = bitB x i := by
  have e : (x : Int) / 2 ^ i = ((x / 2 ^ i : Nat) : Int) := by simp
  have h3 := Nat.div_le_self x (2 ^ i)
  have a1 : bits .and .u64 ((x / 2 ^ i : Nat) : Int) 1 = ((x / 2 ^ i % 2 : Nat) : Int) := by
    have := u64_and_nat (x / 2 ^ i) 1 (by omega) (by decide)
    rw [Nat.and_one_is_mod] at this
    exact this
  rw [e, a1]
  unfold bitB
  rw [Nat.testBit_eq_decide_div_mod_eq]
  rw [Bool.eq_iff_iff]
  simp
  omega

set_option maxHeartbeats 400000 in
theorem rbit_any (x i : Nat) (w : World) (hx : x < 18446744073709551616) (hi : i < 64) :
    Calls Tryz.prog 58 #[.int .u64 (x : Int), .int .i64 (i : Int)] w fun e w' => e = .returned (.bool (bitB x i)) ∧ w' = w := by
  have e := rbit_eq x i hx
  go_enter Tryz.func58, Tryz.ntmps58
  go_wp2
  go_ret
  exact ⟨by simp, rfl⟩
theorem pop_bit (k x : Nat) : popF (k + 1) x = popF k x + if bitB x k then 1 else 0 := by
  rw [popF_succ]
  unfold bitB
  rw [Nat.testBit_eq_decide_div_mod_eq]
  have : x / 2 ^ k % 2 < 2 := Nat.mod_lt _ (by decide)
  by_cases h : x / 2 ^ k % 2 = 1
  · simp [h]
  · simp [h]; omega
set_option maxHeartbeats 400000 in
theorem rones_any (x : Nat) (w : World) (hx : x < 18446744073709551616) :
    Calls Tryz.prog 25 #[.int .u64 (x : Int)] w fun e w' => e = .returned (.int .i64 (popF 64 x : Int)) ∧ w' = w := by
  go_enter Tryz.func25, Tryz.ntmps25
  go_wp2
  go_loop [3, 4] (fun n i => ∃ k : Nat, k ≤ 64 ∧ i = .int .i64 k ∧ n = .int .i64 (popF k x : Int)) (fun _ i => 64 - (intOf i).toNat)
  case atStart => exact ⟨0, Nat.zero_le _, rfl, rfl⟩
  case round =>
    obtain ⟨k, hk, rfl, rfl⟩ := hrel
    have hp := popF_le k x
    by_cases hlt : k < 64
    · have HS := hide (pop_bit k x)
      cases hb : bitB x k
      · go_wp2_with (go_at_call 58; refine (rbit_any _ _ _ hx (by omega)).mono ?_; rintro e w' ⟨rfl, rfl⟩)
        go_round
        case rel => exact ⟨k + 1, by omega, by go_num, by rw [unhide HS, hb]; rfl⟩
        case measure => simp [intOf]; omega
      · go_wp2_with (go_at_call 58; refine (rbit_any _ _ _ hx (by omega)).mono ?_; rintro e w' ⟨rfl, rfl⟩)
        go_round
        case rel => exact ⟨k + 1, by omega, by go_num, by rw [unhide HS, hb]; rfl⟩
        case measure => simp [intOf]; omega
    · obtain rfl : k = 64 := by omega
      go_wp2
      go_ret
      exact ⟨rfl, rfl⟩
end Go.Proofs.YtinehimleldkdaaGreatDoor

/- The document's own Alloc (package gantlineref4) in memory: it does what the plain allocator does. -/
namespace Go.Proofs.YtinehimleldkdaaGreatDoor
set_option maxRecDepth 100000
open Go.ChangeShapes Go.WideShapes Go.ChangeAt Go.RowKit Go.Maps

/-- The blocks D are as they were. -/
def Kd (w w' : World) (D : List Nat) : Prop := ∀ d ∈ D, w'.heap[d]? = w.heap[d]?
theorem Kd.refl (w : World) (D : List Nat) : Kd w w D := fun _ _ => rfl
theorem Kd.trans {w w1 w2 : World} {D : List Nat} (h : Kd w w1 D) (k : Kd w1 w2 D) : Kd w w2 D := fun d hd => (k d hd).trans (h d hd)

/-- Where the document's Alloc lies: its block, its flags' block and room, its arena's block and that one's classes. -/
structure Rq where
  lb : Nat
  ub : Nat
  uc : Nat
  rb : Nat
  cb : Nat

/-- All that is known of it: it does as the plain allocator al; at most N things; the blocks D are none of its own. -/
structure Da (W w : World) (x : Rq) (al : Al) (N : Nat) (D : List Nat) (r : Rd) (cl : List Int) (l : List Mt) : Prop where
  ref : RefAt w W.heap.size r cl l
  erb : r.rb = x.rb
  ecb : r.cb = x.cb
  c0 : w.cell? ⟨x.lb, 0, none⟩ = some (.pointer (some ⟨x.rb, 0, none⟩))
  c1 : w.cell? ⟨x.lb, 1, none⟩ = some (.slice (some ⟨x.ub, 0, none⟩) al.a.n x.uc)
  us : ∀ s, s < al.a.n → w.cell? ⟨x.ub, s, none⟩ = some (.bool (al.u s))
  fu : ∀ i, w.frozen? ⟨x.ub, i, none⟩ = false
  b0 : W.heap.size ≤ x.lb
  b1 : W.heap.size ≤ x.ub
  n0 : x.lb ≠ x.ub
  ol : OffX x.lb r l
  ou : OffX x.ub r l
  rl : Rl al.a cl l
  good : al.a.Good
  ln : l.length ≤ N
  u0 : al.u 0 = false
  below : Below W.heap.size W w
  ap : ∀ d ∈ D, d < w.heap.size ∧ d ≠ x.lb ∧ d ≠ x.ub ∧ OffX d r l
def DA (W w : World) (x : Rq) (al : Al) (N : Nat) (D : List Nat) : Prop := ∃ r cl l, Da W w x al N D r cl l

section
variable {W w w' : World} {x : Rq} {al : Al} {N N' : Nat} {D : List Nat} {r r' : Rd} {cl cl' : List Int} {l l' : List Mt} {a' : Ab}
theorem Da.lt0 (h : Da W w x al N D r cl l) : x.lb < w.heap.size := World.block_lt_of_cell? w _ h.c0
theorem Da.n8 (h : Da W w x al N D r cl l) : 8 ≤ al.a.n := h.good.ok.n0
theorem Da.n512 (h : Da W w x al N D r cl l) : al.a.n ≤ 512 := h.good.ok.n1
theorem Da.lt1 (h : Da W w x al N D r cl l) : x.ub < w.heap.size := World.block_lt_of_cell? w _ (h.us 0 (by have := h.n8; omega))
theorem OffX.grew {k : Nat} (h : OffX k r l) (hk : k < w.heap.size) (g : Grew w r r' l l') : OffX k r' l' := by
  refine ⟨by rw [g.rb]; exact h.1, by rw [g.cb]; exact h.2.1, fun a ha => ?_, fun m hm => ?_⟩
  · rcases g.lo a ha with e | e
    · exact h.2.2.1 a e
    · omega
  · rcases g.wb m hm with ⟨m0, hm0, e⟩ | e
    · rw [e]; exact h.2.2.2 m0 hm0
    · omega
/-- Behind a call of its arena. -/
theorem Da.rn (h : Da W w x al N D r cl l) (R : RefAt w' W.heap.size r' cl' l') (t : Rn w w' r l) (g : Grew w r r' l l') (rl : Rl a' cl' l') (gd : a'.Good) (hn : a'.n = al.a.n) (ln : l'.length ≤ N') :
    Da W w' x ⟨a', al.u⟩ N' D r' cl' l' ∧ Kd w w' D := by
  have keep : ∀ k, k < w.heap.size → OffX k r l → w'.heap[k]? = w.heap[k]? := fun k hk ho => t.block k hk ho.1 ho.2.1 ho.2.2.1 ho.2.2.2
  have kl := keep _ h.lt0 h.ol
  have ku := keep _ h.lt1 h.ou
  refine ⟨⟨R, g.rb.trans h.erb, g.cb.trans h.ecb, (World.cell?_of_block (a := ⟨x.lb, 0, none⟩) kl).trans h.c0, by show _ = some (Value.slice _ a'.n _); rw [hn]; exact (World.cell?_of_block (a := ⟨x.lb, 1, none⟩) kl).trans h.c1,
    fun s hs => (World.cell?_of_block (a := ⟨x.ub, s, none⟩) ku).trans (h.us s (by rw [← hn]; exact hs)), fun i => (World.frozen?_of_block (a := ⟨x.ub, i, none⟩) ku).trans (h.fu i), h.b0, h.b1, h.n0, h.ol.grew h.lt0 g, h.ou.grew h.lt1 g, rl, gd, ln, h.u0, ?_, ?_⟩, ?_⟩
  · have hb := h.below
    refine ⟨t.os.trans hb.os, t.tape.trans hb.tape, t.output.trans hb.output, Nat.le_trans hb.size t.size, fun k hk => ?_⟩
    refine (keep k (Nat.lt_of_lt_of_le hk hb.size) ⟨?_, ?_, fun a ha => ?_, fun m hm => ?_⟩).trans (hb.block k hk)
    · have := h.ref.b0; omega
    · have := h.ref.b1; omega
    · have := (h.ref.lf a ha).2.1; omega
    · have := (h.ref.wd m hm).1.lo; omega
  · intro d hd
    obtain ⟨d0, d1, d2, d3⟩ := h.ap d hd
    exact ⟨Nat.lt_of_lt_of_le d0 t.size, d1, d2, d3.grew d0 g⟩
  · intro d hd
    obtain ⟨d0, d1, d2, d3⟩ := h.ap d hd
    exact keep d d0 d3
theorem Da.gr (h : Da W w x al N D r cl l) (g : G w w') : Da W w' x al N D r cl l :=
  ⟨h.ref.grown g, h.erb, h.ecb, g.cell h.c0, g.cell h.c1, fun s hs => g.cell (h.us s hs), fun i => (World.frozen?_of_block (a := ⟨x.ub, i, none⟩) (g.block _ h.lt1)).trans (h.fu i), h.b0, h.b1, h.n0, h.ol, h.ou, h.rl, h.good, h.ln, h.u0,
    h.below.trans (g.mono h.below.size), fun d hd => ⟨Nat.lt_of_lt_of_le (h.ap d hd).1 g.size, (h.ap d hd).2⟩⟩
theorem DA.gr (h : DA W w x al N D) (g : G w w') : DA W w' x al N D ∧ Kd w w' D := by
  obtain ⟨r, cl, l, h⟩ := h
  exact ⟨⟨r, cl, l, h.gr g⟩, fun d hd => g.block d (h.ap d hd).1⟩
/-- What other calls may turn. -/
theorem Da.kept (h : Da W w x al N D r cl l) (hk : ∀ k, k < w.heap.size → (k = x.lb ∨ k = x.ub ∨ k = r.rb ∨ k = r.cb ∨ (∃ a, r.lo = some a ∧ k = a.block) ∨ ∃ m, m ∈ l ∧ k = m.wb) → w'.heap[k]? = w.heap[k]?) (hs : w.heap.size ≤ w'.heap.size) (hb : Below W.heap.size W w') : Da W w' x al N D r cl l := by
  have kl := hk _ h.lt0 (Or.inl rfl)
  have ku := hk _ h.lt1 (Or.inr (Or.inl rfl))
  refine ⟨h.ref.kept ⟨hk _ h.ref.h0 (Or.inr (Or.inr (Or.inl rfl))), hk _ h.ref.h1 (Or.inr (Or.inr (Or.inr (Or.inl rfl)))), fun a ha => hk _ (h.ref.lf a ha).2.2.1 (Or.inr (Or.inr (Or.inr (Or.inr (Or.inl ⟨a, ha, rfl⟩))))), fun m hm => hk _ (h.ref.wd m hm).1.hi (Or.inr (Or.inr (Or.inr (Or.inr (Or.inr ⟨m, hm, rfl⟩))))), hs⟩, h.erb, h.ecb,
    (World.cell?_of_block (a := ⟨x.lb, 0, none⟩) kl).trans h.c0, (World.cell?_of_block (a := ⟨x.lb, 1, none⟩) kl).trans h.c1, fun s hs => (World.cell?_of_block (a := ⟨x.ub, s, none⟩) ku).trans (h.us s hs), fun i => (World.frozen?_of_block (a := ⟨x.ub, i, none⟩) ku).trans (h.fu i),
    h.b0, h.b1, h.n0, h.ol, h.ou, h.rl, h.good, h.ln, h.u0, hb, fun d hd => ⟨Nat.lt_of_lt_of_le (h.ap d hd).1 hs, (h.ap d hd).2⟩⟩
/-- One flag is set. -/
theorem Da.setU (h : Da W w x al N D r cl l) {s : Nat} (hs : s < al.a.n) : Da W (w.setCell ⟨x.ub, s, none⟩ (.bool false)) x ⟨al.a, upd al.u s false⟩ N D r cl l ∧ Kd w (w.setCell ⟨x.ub, s, none⟩ (.bool false)) D := by
  have k : ∀ b', b' ≠ x.ub → (w.setCell ⟨x.ub, s, none⟩ (.bool false)).heap[b']? = w.heap[b']? := fun b' hb => Below.heap_setCell _ _ _ _ (by show b' ≠ x.ub; omega)
  have kl := k x.lb h.n0
  have sz : (w.setCell ⟨x.ub, s, none⟩ (.bool false)).heap.size = w.heap.size := World.size_setCell _ _ _
  refine ⟨⟨h.ref.kept ⟨k _ (Ne.symm h.ou.1), k _ (Ne.symm h.ou.2.1), fun a ha => k _ (Ne.symm (h.ou.2.2.1 a ha)), fun m hm => k _ (Ne.symm (h.ou.2.2.2 m hm)), by rw [sz]; exact Nat.le_refl _⟩, h.erb, h.ecb, (World.cell?_of_block (a := ⟨x.lb, 0, none⟩) kl).trans h.c0, (World.cell?_of_block (a := ⟨x.lb, 1, none⟩) kl).trans h.c1, fun t ht => ?_, fun i => by rw [World.frozen?_setCell]; exact h.fu i, h.b0, h.b1, h.n0, h.ol, h.ou, h.rl, h.good, h.ln, ?_, ?_, fun d hd => by rw [sz]; exact h.ap d hd⟩, fun d hd => k d (h.ap d hd).2.2.1⟩
  · show _ = some (Value.bool (upd al.u s false t))
    by_cases e : t = s
    · subst e; rw [cell_same _ (h.us t hs), upd_same]
    · rw [cell_other _ (by simp; omega), upd_other _ _ e]; exact h.us t ht
  · show upd al.u s false 0 = false
    by_cases e : 0 = s
    · subst e; exact upd_same _ _ _
    · rw [upd_other _ _ e]; exact h.u0
  · have hb := h.below
    refine ⟨hb.os, hb.tape, hb.output, by rw [sz]; exact hb.size, fun k2 hk => ?_⟩
    rw [k k2 (by have := h.b1; omega)]
    exact hb.block k2 hk

/-! ### its arena's calls -/
theorem da_take (h : Hid (DA W w x al N D)) (hN : N ≤ 2000) {s : Nat} (h1 : 1 ≤ s) (h2 : s < al.a.n) (h3 : 0 ≤ al.a.cls s) :
    Calls Tryz.prog 70 #[.pointer (some ⟨x.rb, 0, none⟩), .int .i64 (s : Int)] w fun e w' => e = .returned (.int .i64 (al.a.takeV s)) ∧ DA W w' x ⟨al.a.takeA s, al.u⟩ (N + 1) D ∧ Kd w w' D ∧ (al.a.takeE s = 0 → 0 < al.a.takeV s) ∧ (¬ al.a.takeE s = 0 → al.a.takeV s = 0 ∧ DA W w' x al N D) := by
  obtain ⟨r, cl, l, h⟩ := unhide h
  have T := rtake_at h.ref h.below.size (by have := h.ln; omega) (h.rl.get h2) h3 (h.good.ok.cr s).2
  rw [h.erb] at T
  refine T.mono ?_
  rintro e w' P
  rcases h.rl.takes h.good h1 h2 h3 P with ⟨e5, eV, eA, rfl, g⟩ | ⟨r', l', e0, hV, rfl, R', RA, rn, gw, hlen⟩
  · rw [eV, eA]
    have K : Kd w w' D := fun d hd => g.block d (h.ap d hd).1
    have H := h.gr g
    exact ⟨rfl, ⟨r, cl, l, ⟨H.ref, H.erb, H.ecb, H.c0, H.c1, H.us, H.fu, H.b0, H.b1, H.n0, H.ol, H.ou, H.rl, H.good, Nat.le_succ_of_le H.ln, H.u0, H.below, H.ap⟩⟩, K, fun e => by omega, fun _ => ⟨rfl, r, cl, l, H⟩⟩
  · obtain ⟨H, K⟩ := h.rn RA rn gw R' (h.good.takeA s) (Ab.takeA_n _ _) (N' := N + 1) (by have := h.ln; omega)
    exact ⟨rfl, ⟨_, _, _, H⟩, K, fun _ => hV, fun e => absurd e0 e⟩
theorem da_sweep (h : Hid (DA W w x al N D)) (hN : N ≤ 2000) {s : Nat} (h1 : 1 ≤ s) (h2 : s < al.a.n) :
    Calls Tryz.prog 94 #[.pointer (some ⟨x.rb, 0, none⟩), .int .i64 (s : Int)] w fun e w' => (∃ v, e = .returned (.int .i64 v)) ∧ DA W w' x ⟨al.a.sweepA s, al.u⟩ N D ∧ Kd w w' D := by
  obtain ⟨r, cl, l, h⟩ := unhide h
  by_cases h3 : 0 ≤ al.a.cls s
  · have T := rsweep_at h.ref h.below.size (by have := h.ln; omega) (h.rl.get h2) h3
    rw [h.erb] at T
    refine T.mono ?_
    rintro e w' ⟨rfl, ao, ca, RA, rn, hlo⟩
    obtain ⟨_, R'⟩ := h.rl.sweep h.good h1 h2 h3
    obtain ⟨H, K⟩ := h.rn RA rn ⟨h.erb.symm, rfl, fun a ha => Or.inr (hlo a ha), fun m hm => Or.inl ⟨m, keptM_mem m hm, rfl⟩⟩ R' (h.good.sweepA' s) (Ab.sweepA_n _ _) (N' := N) (Nat.le_trans (keptM_le _ _ _) h.ln)
    exact ⟨⟨_, rfl⟩, ⟨_, _, _, H⟩, K⟩
  · obtain ⟨_, e2⟩ := sweep_out h.good (s := (s : Int)) (by rw [al.a.clsI_at h1 h2]; omega)
    have c0 := h.ref.c0
    rw [h.erb] at c0
    refine (rsweep_none w x.rb r.cb cl.length r.cc s (al.a.cls s) (by rw [h.rl.len]; exact h2) c0 (h.ref.cv s _ (h.rl.get h2)) (by simp; omega)).mono ?_
    rintro e w' ⟨rfl, rfl⟩
    rw [e2]
    exact ⟨⟨_, rfl⟩, ⟨r, cl, l, h⟩, Kd.refl _ _⟩
end
end Go.Proofs.YtinehimleldkdaaGreatDoor

/- The contracts of the document's Alloc: sweep, give, Take. -/
namespace Go.Proofs.YtinehimleldkdaaGreatDoor
set_option maxRecDepth 100000
open Go.ChangeShapes Go.WideShapes Go.ChangeAt Go.RowKit Go.Maps

section
variable {W w w' : World} {x : Rq} {al : Al} {N : Nat} {D : List Nat}
/-- What can be read. -/
theorem DA.cells (h : DA W w x al N D) : w.cell? ⟨x.lb, 0, none⟩ = some (.pointer (some ⟨x.rb, 0, none⟩)) ∧ w.cell? ⟨x.lb, 1, none⟩ = some (.slice (some ⟨x.ub, 0, none⟩) al.a.n x.uc) ∧ ∃ cc, w.cell? ⟨x.rb, 0, none⟩ = some (.slice (some ⟨x.cb, 0, none⟩) al.a.n cc) := by
  obtain ⟨r, cl, l, h⟩ := h
  have := h.ref.c0
  rw [h.erb, h.ecb, h.rl.len] at this
  exact ⟨h.c0, h.c1, r.cc, this⟩
theorem DA.cls (h : DA W w x al N D) {s : Nat} (hs : s < al.a.n) : w.cell? ⟨x.cb, s, none⟩ = some (.int .i64 (al.a.cls s)) ∧ w.frozen? ⟨x.cb, s, none⟩ = false := by
  obtain ⟨r, cl, l, h⟩ := h
  have := h.ref.cv s _ (h.rl.get hs)
  rw [h.ecb] at this
  have hf := h.ref.cf s
  rw [h.ecb] at hf
  exact ⟨this, hf⟩
theorem DA.us (h : DA W w x al N D) {s : Nat} (hs : s < al.a.n) : w.cell? ⟨x.ub, s, none⟩ = some (.bool (al.u s)) ∧ w.frozen? ⟨x.ub, s, none⟩ = false := by
  obtain ⟨r, cl, l, h⟩ := h
  exact ⟨h.us s hs, h.fu s⟩
theorem DA.good (h : DA W w x al N D) : al.a.Good := by obtain ⟨r, cl, l, h⟩ := h; exact h.good
theorem DA.u0 (h : DA W w x al N D) : al.u 0 = false := by obtain ⟨r, cl, l, h⟩ := h; exact h.u0
theorem DA.below (h : DA W w x al N D) : Below W.heap.size W w := by obtain ⟨r, cl, l, h⟩ := h; exact h.below
theorem DA.up (h : DA W w x al N D) : DA W w x al (N + 1) D := by
  obtain ⟨r, cl, l, H⟩ := h
  exact ⟨r, cl, l, ⟨H.ref, H.erb, H.ecb, H.c0, H.c1, H.us, H.fu, H.b0, H.b1, H.n0, H.ol, H.ou, H.rl, H.good, Nat.le_succ_of_le H.ln, H.u0, H.below, H.ap⟩⟩
theorem DA.setU (h : DA W w x al N D) {s : Nat} (hs : s < al.a.n) : DA W (w.setCell ⟨x.ub, s, none⟩ (.bool false)) x ⟨al.a, upd al.u s false⟩ N D ∧ Kd w (w.setCell ⟨x.ub, s, none⟩ (.bool false)) D := by
  obtain ⟨r, cl, l, h⟩ := h
  obtain ⟨h1, h2⟩ := h.setU hs
  exact ⟨⟨r, cl, l, h1⟩, h2⟩
theorem set_eq {a : Ab} {s : Nat} {c : Int} (h1 : 1 ≤ s) (h2 : s < a.n) (h3 : a.cls s < 0) (hc : 0 ≤ c) (hc5 : c ≤ 5) : a.setE s c = 0 ∧ a.setA s c = a.set s c := by
  have e : a.setE s c = 0 := by
    unfold Ab.setE
    rw [if_neg (by omega), a.clsI_at h1 h2, if_neg (by omega)]
  exact ⟨e, by unfold Ab.setA; rw [if_pos e]; rfl⟩
theorem DA.setCls (h : DA W w x al N D) {s : Nat} {c : Int} (h1 : 1 ≤ s) (h2 : s < al.a.n) (h3 : al.a.cls s < 0) (hc : 0 ≤ c) (hc5 : c ≤ 5) :
    DA W (w.setCell ⟨x.cb, s, none⟩ (.int .i64 c)) x ⟨al.a.setA s c, al.u⟩ N D ∧ Kd w (w.setCell ⟨x.cb, s, none⟩ (.int .i64 c)) D := by
  obtain ⟨r, cl, l, h⟩ := h
  obtain ⟨_, eA⟩ := set_eq h1 h2 h3 hc hc5
  obtain ⟨k1, k2⟩ := h.ref.setCls (s := s) (by rw [h.rl.len]; exact h2) c
  rw [h.ecb] at k1 k2
  obtain ⟨H, K⟩ := h.rn k1 k2 (Grew.refl _ _ _) (a' := al.a.setA s c) (by rw [eA]; exact h.rl.set h2 h3) (h.good.setA s c) (Ab.setA_n _ _ _) (N' := N) h.ln
  exact ⟨⟨_, _, _, H⟩, K⟩

/-- No two of its blocks are one. -/
theorem DA.ne (h : DA W w x al N D) : (¬ x.lb = x.rb ∧ ¬ x.lb = x.cb ∧ ¬ x.lb = x.ub) ∧ (¬ x.ub = x.rb ∧ ¬ x.ub = x.cb) ∧ ¬ x.rb = x.cb := by
  obtain ⟨r, cl, l, h⟩ := h
  have o1 := h.ol.1
  have o2 := h.ol.2.1
  have o3 := h.ou.1
  have o4 := h.ou.2.1
  have o5 := h.ref.ne
  rw [h.erb] at o1 o3 o5
  rw [h.ecb] at o2 o4 o5
  exact ⟨⟨o1, o2, h.n0⟩, ⟨o3, o4⟩, o5⟩

/-! ### sweep -/
set_option maxHeartbeats 1000000 in
theorem ra_sweep_core (s n lb ub uc rb cb : Nat) (u : Bool) (hN : N ≤ 2000) (h1 : 1 ≤ s) (hs : s < n) (hn : Hid (al.a.n = n)) (hu : Hid (al.u s = u)) (h : Hid (DA W w ⟨lb, ub, uc, rb, cb⟩ al N D)) :
    Calls Tryz.prog 69 #[.pointer (some ⟨lb, 0, none⟩), .int .i64 (s : Int)] w fun e w' => e = .returned (.bool u) ∧ DA W w' ⟨lb, ub, uc, rb, cb⟩ (al.swp s) N D ∧ Kd w w' D := by
  have hsn : s < al.a.n := by rw [unhide hn]; exact hs
  obtain ⟨c0, c1, _⟩ := (unhide h).cells
  rw [unhide hn] at c1
  obtain ⟨u1, f1⟩ := (unhide h).us hsn
  rw [unhide hu] at u1
  obtain ⟨⟨_, _, n1⟩, _⟩ := (unhide h).ne
  simp only at c0 c1 u1 f1 n1
  cases u with
  | false =>
    have e : al.swp s = al := by unfold Al.swp; rw [if_neg (by rw [unhide hu]; decide)]
    have H : Hid (DA W w ⟨lb, ub, uc, rb, cb⟩ (al.swp s) N D) := hide (by rw [e]; exact unhide h)
    clear h e hsn f1 n1
    go_enter Tryz.func69, Tryz.ntmps69
    go_wp2_with fail
    go_ret
    exact ⟨rfl, unhide H, Kd.refl _ _⟩
  | true =>
    have e : al.swp s = ⟨al.a.sweepA s, upd al.u s false⟩ := by unfold Al.swp; rw [if_pos (unhide hu)]; rfl
    obtain ⟨H1, K1⟩ := (unhide h).setU hsn
    have C := da_sweep (hide H1) hN h1 hsn
    simp only at C
    rw [← e] at C
    replace C := hide C
    replace K1 := hide K1
    clear h e hsn H1
    go_enter Tryz.func69, Tryz.ntmps69
    go_wp2_with fail
    refine (unhide C).mono ?_
    rintro e w2 ⟨⟨v, rfl⟩, H2, K2⟩
    replace H2 := hide H2
    replace K2 := hide ((unhide K1).trans K2)
    clear C K1
    go_wp2_with fail
    go_ret
    exact ⟨rfl, unhide H2, unhide K2⟩
theorem ra_sweep (h : Hid (DA W w x al N D)) (hN : N ≤ 2000) {s : Nat} (h1 : 1 ≤ s) (hs : s < al.a.n) :
    Calls Tryz.prog 69 #[.pointer (some ⟨x.lb, 0, none⟩), .int .i64 (s : Int)] w fun e w' => e = .returned (.bool (al.u s)) ∧ DA W w' x (al.swp s) N D ∧ Kd w w' D :=
  ra_sweep_core s al.a.n x.lb x.ub x.uc x.rb x.cb (al.u s) hN h1 hs (hide rfl) (hide rfl) h

/-! ### give -/
set_option maxHeartbeats 1000000 in
theorem ra_give_core (s n lb ub uc rb cb : Nat) (c v : Int) (hN : N ≤ 2000) (h1 : 1 ≤ s) (hs : s < n) (h3 : Hid (al.a.cls s < 0)) (hc : 0 ≤ c) (hc5 : c ≤ 5) (hn : Hid (al.a.n = n))
    (hv : Hid ((al.first s c).2.1 = v)) (h : Hid (DA W w ⟨lb, ub, uc, rb, cb⟩ al N D)) :
    Calls Tryz.prog 71 #[.pointer (some ⟨lb, 0, none⟩), .int .i64 (s : Int), .int .i64 c] w fun e w' => e = .returned (.int .i64 v) ∧ DA W w' ⟨lb, ub, uc, rb, cb⟩ (al.first s c).1 (N + 1) D ∧ Kd w w' D := by
  have hsn : s < al.a.n := by rw [unhide hn]; exact hs
  obtain ⟨eE, eA⟩ := set_eq h1 hsn (unhide h3) hc hc5
  have eF : al.first s c = (⟨(al.a.setA s c).takeA s, upd al.u s false⟩, (al.a.setA s c).takeV s, (al.a.setA s c).takeE s) := by unfold Al.first; rw [if_pos eE]
  obtain ⟨c0, c1, cc, c2⟩ := (unhide h).cells
  rw [unhide hn] at c1 c2
  obtain ⟨v1, g1⟩ := (unhide h).cls hsn
  generalize hcc : al.a.cls s = ocl at v1
  obtain ⟨u1, f1⟩ := (unhide h).us hsn
  generalize al.u s = ou at u1
  obtain ⟨⟨n1, n2, n3⟩, ⟨n4, n5⟩, n6⟩ := (unhide h).ne
  simp only at c0 c1 c2 v1 g1 u1 f1 n1 n2 n3 n4 n5 n6
  obtain ⟨H1, K1⟩ := (unhide h).setCls h1 hsn (unhide h3) hc hc5
  have hsn1 : s < (al.a.setA s c).n := by rw [Ab.setA_n]; exact hsn
  obtain ⟨H2, K2⟩ := H1.setU (s := s) hsn1
  have C := da_take (hide H2) hN h1 (s := s) hsn1 (by show 0 ≤ (al.a.setA s c).cls s; rw [eA]; show 0 ≤ upd al.a.cls s c s; rw [upd_same]; exact hc)
  simp only at C
  have ev : (al.a.setA s c).takeV s = v := by have := unhide hv; rw [eF] at this; exact this
  rw [ev] at C
  have C2 : Hid (Calls Tryz.prog 70 #[.pointer (some ⟨rb, 0, none⟩), .int .i64 (s : Int)] ((w.setCell ⟨cb, s, none⟩ (.int .i64 c)).setCell ⟨ub, s, none⟩ (.bool false)) fun e w' => e = .returned (.int .i64 v) ∧ DA W w' ⟨lb, ub, uc, rb, cb⟩ (al.first s c).1 (N + 1) D ∧ Kd ((w.setCell ⟨cb, s, none⟩ (.int .i64 c)).setCell ⟨ub, s, none⟩ (.bool false)) w' D) :=
    hide (C.mono fun e w' hh => ⟨hh.1, by rw [eF]; exact hh.2.1, hh.2.2.1⟩)
  replace K2 := hide (K1.trans K2)
  clear h eE eA hsn hsn1 H1 H2 K1 ev hcc C eF h3 hv
  go_enter Tryz.func71, Tryz.ntmps71
  go_wp2_with fail
  refine (unhide C2).mono ?_
  rintro e w2 ⟨rfl, H2, K3⟩
  replace H2 := hide H2
  replace K3 := hide ((unhide K2).trans K3)
  clear C2 K2
  go_wp2_with fail
  go_ret
  exact ⟨rfl, unhide H2, unhide K3⟩
theorem ra_give (h : Hid (DA W w x al N D)) (hN : N ≤ 2000) {s : Nat} {c : Int} (h1 : 1 ≤ s) (hs : s < al.a.n) (h3 : al.a.cls s < 0) (hc : 0 ≤ c) (hc5 : c ≤ 5) :
    Calls Tryz.prog 71 #[.pointer (some ⟨x.lb, 0, none⟩), .int .i64 (s : Int), .int .i64 c] w fun e w' => e = .returned (.int .i64 (al.first s c).2.1) ∧ DA W w' x (al.first s c).1 (N + 1) D ∧ Kd w w' D :=
  ra_give_core s al.a.n x.lb x.ub x.uc x.rb x.cb c _ hN h1 hs (hide h3) hc hc5 (hide rfl) (hide rfl) h
end
end Go.Proofs.YtinehimleldkdaaGreatDoor

/- An Alloc of the program in memory; the arena's calls through it. -/
namespace Go.Proofs.YtinehimleldkdaaGreatDoor
set_option maxRecDepth 100000
open Go.RowKit Go.Maps Go.ChangeShapes Go.WideShapes Go.ChangeAt

/-- Where an Alloc lies: its block, its flags' block and room, its arena. -/
structure Ld where
  lb : Nat
  ub : Nat
  cu : Nat
  d : Ad

/-- All that a law knows of one allocator on its way: W is the law's first world. -/
structure StL (W w : World) (x : Ld) (l : Al) : Prop where
  st : St W w x.d l.a
  c0 : w.cell? ⟨x.lb, 0, none⟩ = some (.pointer (some ⟨x.d.ab, 0, none⟩))
  c1 : w.cell? ⟨x.lb, 1, none⟩ = some (.slice (some ⟨x.ub, 0, none⟩) l.a.n x.cu)
  us : ∀ s, s < l.a.n → w.cell? ⟨x.ub, s, none⟩ = some (.bool (l.u s))
  fu : ∀ i, w.frozen? ⟨x.ub, i, none⟩ = false
  b0 : W.heap.size ≤ x.lb
  b1 : W.heap.size ≤ x.ub
  n0 : x.lb ≠ x.ub
  n1 : x.lb ≠ x.d.wb ∧ x.lb ≠ x.d.sb
  n2 : x.ub ≠ x.d.ab ∧ x.ub ≠ x.d.wb ∧ x.ub ≠ x.d.sb

/-- w' is w but for what the arena's rows and the flags hold, and for new blocks. -/
structure TnL (w w' : World) (x : Ld) : Prop where
  os : w'.os = w.os
  tape : w'.tape = w.tape
  output : w'.output = w.output
  size : w.heap.size ≤ w'.heap.size
  block : ∀ k, k < w.heap.size → k ≠ x.d.wb → k ≠ x.d.sb → k ≠ x.ub → w'.heap[k]? = w.heap[k]?
theorem TnL.of_Tn {w w' : World} {x : Ld} (h : Tn w w' x.d) : TnL w w' x := ⟨h.os, h.tape, h.output, h.size, fun k hk h1 h2 _ => h.block k hk h1 h2⟩
theorem TnL.of_G {w w' : World} {x : Ld} (h : G w w') : TnL w w' x := TnL.of_Tn (Tn.of_G h)
theorem TnL.refl (w : World) (x : Ld) : TnL w w x := TnL.of_G (G.refl w)
theorem TnL.trans {w w1 w2 : World} {x : Ld} (h : TnL w w1 x) (k : TnL w1 w2 x) : TnL w w2 x :=
  ⟨k.os.trans h.os, k.tape.trans h.tape, k.output.trans h.output, Nat.le_trans h.size k.size, fun b hb h1 h2 h3 => (k.block b (Nat.lt_of_lt_of_le hb h.size) h1 h2 h3).trans (h.block b hb h1 h2 h3)⟩
theorem TnL.set {w w1 : World} {x : Ld} (h : TnL w w1 x) (i : Nat) (v : Value) : TnL w (w1.setCell ⟨x.ub, i, none⟩ v) x := by
  refine ⟨h.os, h.tape, h.output, by rw [World.size_setCell]; exact h.size, fun k hk h1 h2 h3 => ?_⟩
  rw [Below.heap_setCell _ _ _ _ (by show k ≠ x.ub; omega)]
  exact h.block k hk h1 h2 h3
theorem TnL.G {w w1 w2 : World} {x : Ld} (h : TnL w w1 x) (g : G w1 w2) : TnL w w2 x := h.trans (TnL.of_G g)

section
variable {W w w' : World} {x : Ld} {l : Al} {a' : Ab}
theorem StL.lt0 (h : StL W w x l) : x.lb < w.heap.size := World.block_lt_of_cell? w _ h.c0
theorem StL.lt1 (h : StL W w x l) : x.ub < w.heap.size := World.block_lt_of_cell? w _ (h.us 0 (by have := h.st.n8; omega))
theorem StL.below (h : StL W w x l) : Below W.heap.size W w := h.st.below
theorem StL.G (h : StL W w x l) (g : G w w') : StL W w' x l :=
  ⟨h.st.G g, g.cell h.c0, g.cell h.c1, fun s hs => g.cell (h.us s hs), fun i => (World.frozen?_of_block (a := ⟨x.ub, i, none⟩) (g.block _ h.lt1)).trans (h.fu i), h.b0, h.b1, h.n0, h.n1, h.n2⟩
theorem StL.turn (h : StL W w x l) (s : St W w' x.d a') (t : Tn w w' x.d) (hn : a'.n = l.a.n) : StL W w' x ⟨a', l.u⟩ := by
  have kl : w'.heap[x.lb]? = w.heap[x.lb]? := t.block _ h.lt0 h.n1.1 h.n1.2
  have ku : w'.heap[x.ub]? = w.heap[x.ub]? := t.block _ h.lt1 h.n2.2.1 h.n2.2.2
  exact ⟨s, (World.cell?_of_block (a := ⟨x.lb, 0, none⟩) kl).trans h.c0, by show _ = some (Value.slice _ a'.n _); rw [hn]; exact (World.cell?_of_block (a := ⟨x.lb, 1, none⟩) kl).trans h.c1, fun s hs => (World.cell?_of_block (a := ⟨x.ub, s, none⟩) ku).trans (h.us s (by rw [← hn]; exact hs)),
    fun i => (World.frozen?_of_block (a := ⟨x.ub, i, none⟩) ku).trans (h.fu i), h.b0, h.b1, h.n0, h.n1, h.n2⟩
theorem StL.setU (h : StL W w x l) {s : Nat} (hs : s < l.a.n) (b : Bool) : StL W (w.setCell ⟨x.ub, s, none⟩ (.bool b)) x ⟨l.a, upd l.u s b⟩ := by
  have k : ∀ b', b' ≠ x.ub → (w.setCell ⟨x.ub, s, none⟩ (.bool b)).heap[b']? = w.heap[b']? := fun b' hb => Below.heap_setCell _ _ _ _ (by show b' ≠ x.ub; omega)
  have kl := k x.lb h.n0
  refine ⟨⟨h.st.at_.kept (k _ (Ne.symm h.n2.1)) (k _ (Ne.symm h.n2.2.1)) (k _ (Ne.symm h.n2.2.2)), h.st.good, ?_, h.st.tab⟩, (World.cell?_of_block (a := ⟨x.lb, 0, none⟩) kl).trans h.c0, (World.cell?_of_block (a := ⟨x.lb, 1, none⟩) kl).trans h.c1, fun t ht => ?_, fun i => by rw [World.frozen?_setCell]; exact h.fu i, h.b0, h.b1, h.n0, h.n1, h.n2⟩
  · have hb := h.st.below
    refine ⟨hb.os, hb.tape, hb.output, by rw [World.size_setCell]; exact hb.size, fun k2 hk => ?_⟩
    rw [k k2 (by have := h.b1; omega)]
    exact hb.block k2 hk
  · show _ = some (Value.bool (upd l.u s b t))
    by_cases e : t = s
    · subst e; rw [cell_same _ (h.us t hs), upd_same]
    · rw [cell_other _ (by simp; omega), upd_other _ _ e]; exact h.us t ht
/-- The world behind a call is below what the law began with. -/
theorem StL.same (h : StL W w x l) {l2 : Al} (h1 : l2.a = l.a) (h2 : ∀ s, s < l.a.n → l2.u s = l.u s) : StL W w x l2 := by
  obtain ⟨a2, u2⟩ := l2
  simp only at h1 h2
  subst h1
  exact ⟨h.st, h.c0, h.c1, fun s hs => by show _ = some (Value.bool (u2 s)); rw [h2 s hs]; exact h.us s hs, h.fu, h.b0, h.b1, h.n0, h.n1, h.n2⟩

/-! ### the arena's calls -/
theorem ls_spans (h : Hid (StL W w x l)) : Calls Tryz.prog 61 #[.pointer (some ⟨x.d.ab, 0, none⟩)] w fun e w' => e = .returned (.int .i64 l.a.n) ∧ w' = w := st_spans (hide (unhide h).st)
theorem ls_cls (h : Hid (StL W w x l)) (s : Int) : Calls Tryz.prog 89 #[.pointer (some ⟨x.d.ab, 0, none⟩), .int .i64 s] w fun e w' => e = .returned (.int .i64 (l.a.clsI s)) ∧ StL W w' x l ∧ G w w' :=
  (st_cls (hide (unhide h).st) s).mono fun _ _ hh => ⟨hh.1, (unhide h).G hh.2.2, hh.2.2⟩
theorem ls_is (h : Hid (StL W w x l)) (s : Int) : Calls Tryz.prog 24 #[.pointer (some ⟨x.d.ab, 0, none⟩), .int .i64 s] w fun e w' => e = .returned (.bool (l.a.is s)) ∧ StL W w' x l ∧ G w w' :=
  (st_is (hide (unhide h).st) s).mono fun _ _ hh => ⟨hh.1, (unhide h).G hh.2.2, hh.2.2⟩
theorem ls_read (h : Hid (StL W w x l)) (s i : Int) : Calls Tryz.prog 74 #[.pointer (some ⟨x.d.ab, 0, none⟩), .int .i64 s, .int .i64 i] w fun e w' => e = .returned (.tuple #[.int .i64 (l.a.readV s i), .int .i64 (l.a.readE s i)]) ∧ StL W w' x l ∧ G w w' :=
  (st_read (hide (unhide h).st) s i).mono fun _ _ hh => ⟨hh.1, (unhide h).G hh.2.2, hh.2.2⟩
theorem Ab.markA_n (a : Ab) (s : Int) : (a.markA s).n = a.n := by unfold Ab.markA; split <;> rfl
theorem Ab.writeA_n (a : Ab) (s i v : Int) : (a.writeA s i v).n = a.n := by unfold Ab.writeA; split <;> rfl
theorem ls_write (h : Hid (StL W w x l)) (s i v : Int) : Calls Tryz.prog 47 #[.pointer (some ⟨x.d.ab, 0, none⟩), .int .i64 s, .int .i64 i, .int .i64 v] w fun e w' => e = .returned (.int .i64 (l.a.readE s i)) ∧ StL W w' x ⟨l.a.writeA s i v, l.u⟩ ∧ TnL w w' x :=
  (st_write (hide (unhide h).st) s i v).mono fun _ _ hh => ⟨hh.1, (unhide h).turn hh.2.1 hh.2.2 (Ab.writeA_n _ _ _ _), TnL.of_Tn hh.2.2⟩
theorem ls_mark (h : Hid (StL W w x l)) (s : Int) : Calls Tryz.prog 23 #[.pointer (some ⟨x.d.ab, 0, none⟩), .int .i64 s] w fun e w' => e = .returned (.bool (l.a.markB s)) ∧ StL W w' x ⟨l.a.markA s, l.u⟩ ∧ TnL w w' x :=
  (st_mark (hide (unhide h).st) s).mono fun _ _ hh => ⟨hh.1, (unhide h).turn hh.2.1 hh.2.2 (Ab.markA_n _ _), TnL.of_Tn hh.2.2⟩
theorem ls_set (h : Hid (StL W w x l)) (s c : Int) : Calls Tryz.prog 93 #[.pointer (some ⟨x.d.ab, 0, none⟩), .int .i64 s, .int .i64 c] w fun e w' => e = .returned (.int .i64 (l.a.setE s c)) ∧ StL W w' x ⟨l.a.setA s c, l.u⟩ ∧ TnL w w' x :=
  (st_set (hide (unhide h).st) s c).mono fun _ _ hh => ⟨hh.1, (unhide h).turn hh.2.1 hh.2.2 (Ab.setA_n _ _ _), TnL.of_Tn hh.2.2⟩
theorem ls_take (h : Hid (StL W w x l)) (s : Int) : Calls Tryz.prog 91 #[.pointer (some ⟨x.d.ab, 0, none⟩), .int .i64 s] w fun e w' => e = .returned (.tuple #[.int .i64 (l.a.takeV s), .int .i64 (l.a.takeE s)]) ∧ StL W w' x ⟨l.a.takeA s, l.u⟩ ∧ TnL w w' x :=
  (st_take (hide (unhide h).st) s).mono fun _ _ hh => ⟨hh.1, (unhide h).turn hh.2.1 hh.2.2 (Ab.takeA_n _ _), TnL.of_Tn hh.2.2⟩
theorem ls_asweep (h : Hid (StL W w x l)) (s : Int) : Calls Tryz.prog 110 #[.pointer (some ⟨x.d.ab, 0, none⟩), .int .i64 s] w fun e w' => e = .returned (.int .i64 (l.a.sweepN s : Int)) ∧ StL W w' x ⟨l.a.sweepA s, l.u⟩ ∧ TnL w w' x :=
  (st_sweep (hide (unhide h).st) s).mono fun _ _ hh => ⟨hh.1, (unhide h).turn hh.2.1 hh.2.2 (Ab.sweepA_n _ _), TnL.of_Tn hh.2.2⟩

/-! ### the small ones -/
set_option maxHeartbeats 400000 in
theorem l_classed (h : Hid (StL W w x l)) (s : Int) : Calls Tryz.prog 92 #[.pointer (some ⟨x.lb, 0, none⟩), .int .i64 s] w fun e w' => e = .returned (.bool (decide (0 ≤ l.a.clsI s))) ∧ StL W w' x l ∧ G w w' := by
  have c0 := (unhide h).c0
  go_enter Tryz.func92, Tryz.ntmps92
  go_wp2_with fail
  refine (ls_cls h s).mono ?_
  rintro e w1 ⟨rfl, S, g⟩
  replace g := hide g
  replace S := hide S
  generalize hc : l.a.clsI s = c
  go_wp2_with fail
  go_ret
  exact ⟨by simp [hc], unhide S, unhide g⟩

set_option maxHeartbeats 400000 in
theorem l_sweep_core (s n ub cu : Nat) (hn : Hid (l.a.n = n)) (hub : Hid (x.ub = ub)) (hcu : Hid (x.cu = cu)) (hs : s < n) (h : Hid (StL W w x l)) : Calls Tryz.prog 90 #[.pointer (some ⟨x.lb, 0, none⟩), .int .i64 (s : Int)] w fun e w' => e = .returned (.tuple #[]) ∧ StL W w' x (l.sweep s) ∧ TnL w w' x := by
  have c0 := (unhide h).c0
  go_enter Tryz.func90, Tryz.ntmps90
  go_wp2_with fail
  refine (ls_asweep h s).mono ?_
  rintro e w1 ⟨rfl, S, t⟩
  clear c0
  have hsn : s < (l.a.sweepA s).n := by rw [Ab.sweepA_n, unhide hn]; exact hs
  have c1 : w1.cell? ⟨x.lb, 1, none⟩ = some (.slice (some ⟨ub, 0, none⟩) n cu) := by
    have := S.c1
    simp only [Ab.sweepA_n, unhide hn, unhide hub, unhide hcu] at this
    exact this
  have u1 : w1.cell? ⟨ub, s, none⟩ = some (.bool (l.u s)) := by rw [← unhide hub]; exact S.us s hsn
  have f1 : w1.frozen? ⟨ub, s, none⟩ = false := by rw [← unhide hub]; exact S.fu s
  have S2 : Hid (StL W (w1.setCell ⟨ub, s, none⟩ (.bool false)) x (l.sweep s)) := hide (by rw [← unhide hub]; exact S.setU hsn false)
  have t2 : Hid (TnL w (w1.setCell ⟨ub, s, none⟩ (.bool false)) x) := hide (by rw [← unhide hub]; exact t.set s _)
  clear S t hsn h
  generalize l.u s = ub1 at u1
  go_wp2_with fail
  go_end0
  exact ⟨rfl, unhide S2, unhide t2⟩
theorem l_sweep (h : Hid (StL W w x l)) (s : Nat) (hs : s < l.a.n) : Calls Tryz.prog 90 #[.pointer (some ⟨x.lb, 0, none⟩), .int .i64 (s : Int)] w fun e w' => e = .returned (.tuple #[]) ∧ StL W w' x (l.sweep s) ∧ TnL w w' x :=
  l_sweep_core s l.a.n x.ub x.cu (hide rfl) (hide rfl) (hide rfl) hs h
end
end Go.Proofs.YtinehimleldkdaaGreatDoor

/- The contracts of an Alloc's calls that go through the spans. -/
namespace Go.Proofs.YtinehimleldkdaaGreatDoor
set_option maxRecDepth 100000
open Go.RowKit Go.Maps Go.ChangeShapes Go.WideShapes Go.ChangeAt

section
variable {W w : World} {x : Ld} {l : Al}

theorem toc_skip {c : Int} {n j : Nat} {l : Al} (hj : j < n) (hc : ¬ l.a.clsI j = c) : Al.toc c (n - j) j l = Al.toc c (n - (j + 1)) (j + 1) l := by
  rw [show n - j = (n - (j + 1)) + 1 by omega, Al.toc, if_neg hc]
theorem toc_hit {c : Int} {n j : Nat} {l : Al} (hj : j < n) (hc : l.a.clsI j = c) (he : (l.swp j).a.takeE j = 0) : Al.toc c (n - j) j l = (⟨(l.swp j).a.takeA j, (l.swp j).u⟩, (l.swp j).a.takeV j, true) := by
  rw [show n - j = (n - (j + 1)) + 1 by omega, Al.toc, if_pos hc, if_pos he]
theorem toc_miss {c : Int} {n j : Nat} {l : Al} (hj : j < n) (hc : l.a.clsI j = c) (he : ¬ (l.swp j).a.takeE j = 0) : Al.toc c (n - j) j l = Al.toc c (n - (j + 1)) (j + 1) (l.swp j) := by
  rw [show n - j = (n - (j + 1)) + 1 by omega, Al.toc, if_pos hc, if_neg he]
theorem takeA_miss {a : Ab} {s : Int} (he : ¬ a.takeE s = 0) : a.takeA s = a := by unfold Ab.takeA; rw [if_neg he]
theorem Al.sweep_n (l : Al) (s : Nat) : (l.sweep s).a.n = l.a.n := Ab.sweepA_n _ _

/-- What takeOfClass knows in a round. -/
structure Tc (W w wr : World) (x : Ld) (c : Int) (n j : Nat) (lj : Al) (R : Al × Int × Bool) : Prop where
  st : StL W wr x lj
  tn : TnL w wr x
  hn : lj.a.n = n
  e : Al.toc c (n - j) j lj = R

set_option maxHeartbeats 1000000 in
theorem l_toc_core (c : Int) (n ub cu : Nat) (h8 : 8 ≤ n) (hn5 : n ≤ 512) (r1 : Al) (v : Int) (b : Bool) (hub : Hid (x.ub = ub)) (hcu : Hid (x.cu = cu)) (h : Hid (Tc W w w x c n 1 l (r1, v, b))) :
    Calls Tryz.prog 64 #[.pointer (some ⟨x.lb, 0, none⟩), .int .i64 c] w fun e w' => e = .returned (.tuple #[.int .i64 v, .bool b]) ∧ StL W w' x r1 ∧ TnL w w' x := by
  go_enter Tryz.func64, Tryz.ntmps64
  go_wp2_with fail
  go_loopw [6] (fun i wr => ∃ (j : Nat) (lj : Al), 1 ≤ j ∧ j ≤ n ∧ i = .int .i64 j ∧ Hid (Tc W w wr x c n j lj (r1, v, b))) (fun i _ => n - (intOf i).toNat)
  case atStart => exact ⟨1, l, Nat.le_refl _, by omega, rfl, h⟩
  case round =>
    obtain ⟨j, lj, hj1, hj, rfl, R⟩ := hrel
    clear h
    have c0 := (unhide R).st.c0
    have hsp := hide (ls_spans (hide (unhide R).st))
    rw [(unhide R).hn] at hsp
    by_cases hjn : j = n
    · subst hjn
      go_wp2_with fail
      refine (unhide hsp).mono ?_
      rintro e w2 ⟨rfl, rfl⟩
      clear c0
      go_wp2_with fail
      have he := (unhide R).e
      rw [Nat.sub_self] at he
      injection he with e1 e2
      injection e2 with e2 e3
      subst e1 e2 e3
      go_returns
      exact ⟨rfl, (unhide R).st, (unhide R).tn⟩
    · have hjl : (j : Int) < (n : Int) := by omega
      have hjn' : j < n := by omega
      go_wp2_with fail
      refine (unhide hsp).mono ?_
      rintro e w2 ⟨rfl, rfl⟩
      clear hsp
      go_wp2_with fail
      refine (ls_cls (hide (unhide R).st) j).mono ?_
      rintro e w3 ⟨rfl, S, g⟩
      have R3 : Hid (Tc W w w3 x c n j lj (r1, v, b)) := hide ⟨S, (unhide R).tn.G g, (unhide R).hn, (unhide R).e⟩
      clear S g R c0
      by_cases hc : lj.a.clsI j = c
      · have R4 : Hid ((lj.swp j).a.takeE j = 0 → (⟨(lj.swp j).a.takeA j, (lj.swp j).u⟩, (lj.swp j).a.takeV j, true) = (r1, v, b)) := hide fun he => (toc_hit hjn' hc he).symm.trans (unhide R3).e
        have R5 : Hid (¬ (lj.swp j).a.takeE j = 0 → Al.toc c (n - (j + 1)) (j + 1) (lj.swp j) = (r1, v, b)) := hide fun he => (toc_miss hjn' hc he).symm.trans (unhide R3).e
        rw [hc]
        have hne : (c != c) = false := by simp
        have hjj : j < lj.a.n := by rw [(unhide R3).hn]; exact hjn'
        have c1 : w3.cell? ⟨x.lb, 1, none⟩ = some (.slice (some ⟨ub, 0, none⟩) n cu) := by rw [← unhide hub, ← unhide hcu, ← (unhide R3).hn]; exact (unhide R3).st.c1
        have u1 : w3.cell? ⟨ub, j, none⟩ = some (.bool (lj.u j)) := by rw [← unhide hub]; exact (unhide R3).st.us j hjj
        have K : Hid (∃ lu, lj.swp j = lu) := hide ⟨_, rfl⟩
        obtain ⟨lu, elu⟩ := unhide K
        rw [elu] at R4 R5
        have elu := hide elu
        have hjj := hide hjj
        clear K hc
        by_cases hu : lj.u j = true
        · rw [hu] at u1
          go_wp2_with fail
          refine (l_sweep (hide (unhide R3).st) j (unhide hjj)).mono ?_
          rintro e w4 ⟨rfl, S, t⟩
          have S4 : Hid (StL W w4 x lu) := hide (by have := unhide elu; unfold Al.swp at this; rw [if_pos hu] at this; rw [← this]; exact S)
          have t4 : Hid (TnL w w4 x) := hide ((unhide R3).tn.trans t)
          have n4 : Hid (lu.a.n = n) := hide (by rw [← unhide elu, Al.swp_n]; exact (unhide R3).hn)
          clear S t R3 u1 c1
          have c0 := (unhide S4).c0
          go_wp2_with fail
          refine (ls_take S4 j).mono ?_
          rintro e w5 ⟨rfl, S, t⟩
          replace t4 := hide ((unhide t4).trans t)
          by_cases he : lu.a.takeE j = 0
          · have q := unhide R4 he
            injection q with e1 e2
            injection e2 with e2 e3
            subst e1 e2 e3
            rw [he]
            replace S := hide S
            clear t c0 S4 R4 R5
            generalize hv : lu.a.takeV j = v
            go_wp2_with fail
            go_returns
            exact ⟨by rw [hv]; rfl, unhide S, unhide t4⟩
          · have q := unhide R5 he
            rw [takeA_miss he] at S
            have RR : Hid (Tc W w w5 x c n (j + 1) lu (r1, v, b)) := hide ⟨S, unhide t4, unhide n4, q⟩
            clear S t c0 S4 R4 R5 q t4
            generalize lu.a.takeE j = ee at he
            have he' : (ee == 0) = false := by simpa using he
            generalize lu.a.takeV j = vv
            go_wp2_with fail
            go_roundw
            case rel => exact ⟨j + 1, lu, by omega, by omega, by go_num, RR⟩
            case measure => simp [intOf]; omega
        · have hu' : lj.u j = false := by simpa using hu
          rw [hu'] at u1
          have S4 : Hid (StL W w3 x lu) := hide (by have := unhide elu; unfold Al.swp at this; rw [if_neg hu] at this; rw [← this]; exact (unhide R3).st)
          have t4 : Hid (TnL w w3 x) := hide (unhide R3).tn
          have n4 : Hid (lu.a.n = n) := hide (by rw [← unhide elu, Al.swp_n]; exact (unhide R3).hn)
          have c0 := (unhide S4).c0
          go_wp2_with fail
          refine (ls_take S4 j).mono ?_
          rintro e w5 ⟨rfl, S, t⟩
          replace t4 := hide ((unhide t4).trans t)
          clear R3 u1 c1
          by_cases he : lu.a.takeE j = 0
          · have q := unhide R4 he
            injection q with e1 e2
            injection e2 with e2 e3
            subst e1 e2 e3
            rw [he]
            replace S := hide S
            clear t c0 S4 R4 R5
            generalize hv : lu.a.takeV j = v
            go_wp2_with fail
            go_returns
            exact ⟨by rw [hv]; rfl, unhide S, unhide t4⟩
          · have q := unhide R5 he
            rw [takeA_miss he] at S
            have RR : Hid (Tc W w w5 x c n (j + 1) lu (r1, v, b)) := hide ⟨S, unhide t4, unhide n4, q⟩
            clear S t c0 S4 R4 R5 q t4
            generalize lu.a.takeE j = ee at he
            have he' : (ee == 0) = false := by simpa using he
            generalize lu.a.takeV j = vv
            go_wp2_with fail
            go_roundw
            case rel => exact ⟨j + 1, lu, by omega, by omega, by go_num, RR⟩
            case measure => simp [intOf]; omega
      · have RR : Hid (Tc W w w3 x c n (j + 1) lj (r1, v, b)) := hide ⟨(unhide R3).st, (unhide R3).tn, (unhide R3).hn, (toc_skip hjn' hc).symm.trans (unhide R3).e⟩
        clear R3
        generalize lj.a.clsI j = cc at hc
        have hne : (cc != c) = true := by simpa using hc
        go_wp2_with fail
        go_roundw
        case rel => exact ⟨j + 1, lj, by omega, by omega, by go_num, RR⟩
        case measure => simp [intOf]; omega
theorem l_toc (h : Hid (StL W w x l)) (c : Int) :
    Calls Tryz.prog 64 #[.pointer (some ⟨x.lb, 0, none⟩), .int .i64 c] w fun e w' => e = .returned (.tuple #[.int .i64 (Al.toc c (l.a.n - 1) 1 l).2.1, .bool (Al.toc c (l.a.n - 1) 1 l).2.2]) ∧ StL W w' x (Al.toc c (l.a.n - 1) 1 l).1 ∧ TnL w w' x :=
  l_toc_core c l.a.n x.ub x.cu (unhide h).st.n8 (unhide h).st.n512 _ _ _ (hide rfl) (hide rfl) (hide ⟨unhide h, TnL.refl _ _, rfl, rfl⟩)

/-! ### withoutClass -/
def optI (o : Option Nat) : Int := match o with | some s => s | none => 0
theorem wo_skip {n j : Nat} {a : Ab} (hj : j < n) (hc : 0 ≤ a.clsI j) : a.wo (n - j) j = a.wo (n - (j + 1)) (j + 1) := by
  rw [show n - j = (n - (j + 1)) + 1 by omega, Ab.wo, if_pos hc]
theorem wo_hit {n j : Nat} {a : Ab} (hj : j < n) (hc : ¬ 0 ≤ a.clsI j) : a.wo (n - j) j = some j := by
  rw [show n - j = (n - (j + 1)) + 1 by omega, Ab.wo, if_neg hc]

set_option maxHeartbeats 1000000 in
theorem l_wo_core (n : Nat) (h8 : 8 ≤ n) (hn5 : n ≤ 512) (o : Option Nat) (hn : Hid (l.a.n = n)) (ho : Hid (l.a.wo (n - 1) 1 = o)) (h : Hid (StL W w x l)) :
    Calls Tryz.prog 65 #[.pointer (some ⟨x.lb, 0, none⟩)] w fun e w' => e = .returned (.tuple #[.int .i64 (optI o), .bool o.isSome]) ∧ StL W w' x l ∧ G w w' := by
  go_enter Tryz.func65, Tryz.ntmps65
  go_wp2_with fail
  go_loopw [4] (fun i wr => ∃ (j : Nat), 1 ≤ j ∧ j ≤ n ∧ i = .int .i64 j ∧ Hid (StL W wr x l ∧ G w wr ∧ l.a.wo (n - j) j = o)) (fun i _ => n - (intOf i).toNat)
  case atStart => exact ⟨1, Nat.le_refl _, by omega, rfl, hide ⟨unhide h, G.refl _, unhide ho⟩⟩
  case round =>
    obtain ⟨j, hj1, hj, rfl, R⟩ := hrel
    clear h ho
    have c0 := (unhide R).1.c0
    have hsp := hide (ls_spans (hide (unhide R).1))
    rw [unhide hn] at hsp
    by_cases hjn : j = n
    · subst hjn
      go_wp2_with fail
      refine (unhide hsp).mono ?_
      rintro e w2 ⟨rfl, rfl⟩
      clear c0
      go_wp2_with fail
      have he := (unhide R).2.2
      rw [Nat.sub_self] at he
      have he2 : o = none := he.symm
      subst he2
      go_returns
      exact ⟨rfl, (unhide R).1, (unhide R).2.1⟩
    · have hjl : (j : Int) < (n : Int) := by omega
      have hjn' : j < n := by omega
      go_wp2_with fail
      refine (unhide hsp).mono ?_
      rintro e w2 ⟨rfl, rfl⟩
      clear hsp
      go_wp2_with fail
      refine (l_classed (hide (unhide R).1) j).mono ?_
      rintro e w3 ⟨rfl, S, g⟩
      by_cases hc : 0 ≤ l.a.clsI j
      · have RR : Hid (StL W w3 x l ∧ G w w3 ∧ l.a.wo (n - (j + 1)) (j + 1) = o) := hide ⟨S, (unhide R).2.1.trans g, (wo_skip hjn' hc).symm.trans (unhide R).2.2⟩
        have hd : decide (0 ≤ l.a.clsI j) = true := by simpa using hc
        rw [hd]
        clear S g R c0
        go_wp2_with fail
        go_roundw
        case rel => exact ⟨j + 1, by omega, by omega, by go_num, RR⟩
        case measure => simp [intOf]; omega
      · have he := (wo_hit hjn' hc).symm.trans (unhide R).2.2
        subst he
        have RR : Hid (StL W w3 x l ∧ G w w3) := hide ⟨S, (unhide R).2.1.trans g⟩
        have hd : decide (0 ≤ l.a.clsI j) = false := by simpa using hc
        rw [hd]
        clear S g R c0
        go_wp2_with fail
        go_returns
        exact ⟨rfl, (unhide RR).1, (unhide RR).2⟩
theorem l_wo (h : Hid (StL W w x l)) :
    Calls Tryz.prog 65 #[.pointer (some ⟨x.lb, 0, none⟩)] w fun e w' => e = .returned (.tuple #[.int .i64 (optI (l.a.wo (l.a.n - 1) 1)), .bool (l.a.wo (l.a.n - 1) 1).isSome]) ∧ StL W w' x l ∧ G w w' :=
  l_wo_core l.a.n (unhide h).st.n8 (unhide h).st.n512 _ (hide rfl) (hide rfl) h

/-! ### sweepOneFree -/
theorem sof_skip {n j : Nat} {l : Al} (hj : j < n) (hu : ¬ l.u j = true) : Al.sof (n - j) j l = Al.sof (n - (j + 1)) (j + 1) l := by
  rw [show n - j = (n - (j + 1)) + 1 by omega, Al.sof, if_neg hu]
theorem sof_miss {n j : Nat} {l : Al} (hj : j < n) (hu : l.u j = true) (hc : 0 ≤ (l.sweep j).a.clsI j) : Al.sof (n - j) j l = Al.sof (n - (j + 1)) (j + 1) (l.sweep j) := by
  rw [show n - j = (n - (j + 1)) + 1 by omega, Al.sof, if_pos hu, if_pos hc]
theorem sof_hit {n j : Nat} {l : Al} (hj : j < n) (hu : l.u j = true) (hc : ¬ 0 ≤ (l.sweep j).a.clsI j) : Al.sof (n - j) j l = (l.sweep j, some j) := by
  rw [show n - j = (n - (j + 1)) + 1 by omega, Al.sof, if_pos hu, if_neg hc]
structure Sf (W w wr : World) (x : Ld) (n j : Nat) (lj : Al) (R : Al × Option Nat) : Prop where
  st : StL W wr x lj
  tn : TnL w wr x
  hn : lj.a.n = n
  e : Al.sof (n - j) j lj = R

set_option maxHeartbeats 1000000 in
theorem l_sof_core (n ub cu : Nat) (hn5 : n ≤ 512) (r1 : Al) (o : Option Nat) (hub : Hid (x.ub = ub)) (hcu : Hid (x.cu = cu)) (h : Hid (Sf W w w x n 0 l (r1, o))) :
    Calls Tryz.prog 67 #[.pointer (some ⟨x.lb, 0, none⟩)] w fun e w' => e = .returned (.tuple #[.int .i64 (optI o), .bool o.isSome]) ∧ StL W w' x r1 ∧ TnL w w' x := by
  have c1 : w.cell? ⟨x.lb, 1, none⟩ = some (.slice (some ⟨ub, 0, none⟩) n cu) := by rw [← unhide hub, ← unhide hcu, ← (unhide h).hn]; exact (unhide h).st.c1
  go_enter Tryz.func67, Tryz.ntmps67
  go_wp2_with fail
  go_loopw [10] (fun i wr => ∃ (j : Nat) (lj : Al), j ≤ n ∧ i = .int .i64 j ∧ Hid (Sf W w wr x n j lj (r1, o))) (fun i _ => n - (intOf i).toNat)
  case atStart => exact ⟨0, l, Nat.zero_le _, rfl, h⟩
  case round =>
    obtain ⟨j, lj, hj, rfl, R⟩ := hrel
    clear h c1
    by_cases hjn : j = n
    · subst hjn
      go_wp2_with fail
      have he := (unhide R).e
      rw [Nat.sub_self] at he
      injection he with e1 e2
      subst e1 e2
      go_returns
      exact ⟨rfl, (unhide R).st, (unhide R).tn⟩
    · have hjl : (j : Int) < (n : Int) := by omega
      have hjn' : j < n := by omega
      have hjj : j < lj.a.n := by rw [(unhide R).hn]; exact hjn'
      have c1 : wr.cell? ⟨x.lb, 1, none⟩ = some (.slice (some ⟨ub, 0, none⟩) n cu) := by rw [← unhide hub, ← unhide hcu, ← (unhide R).hn]; exact (unhide R).st.c1
      have u1 : wr.cell? ⟨ub, j, none⟩ = some (.bool (lj.u j)) := by rw [← unhide hub]; exact (unhide R).st.us j hjj
      by_cases hu : lj.u j = true
      · rw [hu] at u1
        go_wp2_with fail
        refine (l_sweep (hide (unhide R).st) j hjj).mono ?_
        rintro e w4 ⟨rfl, S, t⟩
        have t4 : Hid (TnL w w4 x) := hide ((unhide R).tn.trans t)
        have n4 : Hid ((lj.sweep j).a.n = n) := hide (by rw [Al.sweep_n]; exact (unhide R).hn)
        replace S := hide S
        clear t u1 c1
        go_wp2_with fail
        refine (l_classed S j).mono ?_
        rintro e w5 ⟨rfl, S5, g⟩
        by_cases hc : 0 ≤ (lj.sweep j).a.clsI j
        · have RR : Hid (Sf W w w5 x n (j + 1) (lj.sweep j) (r1, o)) := hide ⟨S5, (unhide t4).G g, unhide n4, (sof_miss hjn' hu hc).symm.trans (unhide R).e⟩
          have hd : decide (0 ≤ (lj.sweep j).a.clsI j) = true := by simpa using hc
          rw [hd]
          clear S S5 g R t4 n4
          go_wp2_with fail
          go_roundw
          case rel => exact ⟨j + 1, lj.sweep j, by omega, by go_num, RR⟩
          case measure => simp [intOf]; omega
        · have he := (sof_hit hjn' hu hc).symm.trans (unhide R).e
          injection he with e1 e2
          subst e1 e2
          have RR : Hid (StL W w5 x (lj.sweep j) ∧ TnL w w5 x) := hide ⟨S5, (unhide t4).G g⟩
          have hd : decide (0 ≤ (lj.sweep j).a.clsI j) = false := by simpa using hc
          rw [hd]
          clear S S5 g R t4 n4
          go_wp2_with fail
          go_returns
          exact ⟨rfl, (unhide RR).1, (unhide RR).2⟩
      · have hu' : lj.u j = false := by simpa using hu
        rw [hu'] at u1
        have RR : Hid (Sf W w wr x n (j + 1) lj (r1, o)) := hide ⟨(unhide R).st, (unhide R).tn, (unhide R).hn, (sof_skip hjn' hu).symm.trans (unhide R).e⟩
        clear R
        go_wp2_with fail
        go_roundw
        case rel => exact ⟨j + 1, lj, by omega, by go_num, RR⟩
        case measure => simp [intOf]; omega
theorem l_sof (h : Hid (StL W w x l)) :
    Calls Tryz.prog 67 #[.pointer (some ⟨x.lb, 0, none⟩)] w fun e w' => e = .returned (.tuple #[.int .i64 (optI (Al.sof l.a.n 0 l).2), .bool (Al.sof l.a.n 0 l).2.isSome]) ∧ StL W w' x (Al.sof l.a.n 0 l).1 ∧ TnL w w' x :=
  l_sof_core l.a.n x.ub x.cu (unhide h).st.n512 _ _ (hide rfl) (hide rfl) (hide ⟨unhide h, TnL.refl _ _, rfl, rfl⟩)
end
end Go.Proofs.YtinehimleldkdaaGreatDoor

/- The contract of the document's Alloc: Take. -/
namespace Go.Proofs.YtinehimleldkdaaGreatDoor
set_option maxRecDepth 100000
open Go.ChangeShapes Go.WideShapes Go.ChangeAt Go.RowKit Go.Maps

section
variable {W w w' : World} {x : Rq} {al : Al} {N : Nat} {D : List Nat}
theorem swp_cls (l : Al) (s : Nat) : (l.swp s).a.cls s = l.a.cls s ∨ (l.swp s).a.cls s = -1 := by
  unfold Al.swp
  split
  · show (l.a.sweepA s).cls s = _ ∨ (l.a.sweepA s).cls s = -1
    unfold Ab.sweepA
    split
    · show (if l.a.kept s = 0 then upd l.a.cls s (-1) else l.a.cls) s = _ ∨ (if l.a.kept s = 0 then upd l.a.cls s (-1) else l.a.cls) s = -1
      split
      · exact Or.inr (upd_same _ _ _)
      · exact Or.inl rfl
    · exact Or.inl rfl
  · exact Or.inl rfl
theorem takeE_none {a : Ab} {s : Nat} (h1 : 1 ≤ s) (h2 : s < a.n) (h : a.cls s < 0) : ¬ a.takeE s = 0 := by
  unfold Ab.takeE
  rw [a.clsI_at h1 h2, if_pos h]
  decide
theorem sof_zero {l : Al} {n : Nat} (h : l.u 0 = false) (hn : 1 ≤ n) : Al.sof n 0 l = Al.sof (n - 1) 1 l := by
  obtain ⟨k, rfl⟩ : ∃ k, n = k + 1 := ⟨n - 1, by omega⟩
  rw [Al.sof, if_neg (by rw [h]; decide)]
  rfl
/-- What Take knows in a round of its first loop. -/
structure Td (W w wr : World) (x : Rq) (c : Int) (n j N : Nat) (D : List Nat) (lj : Al) (R : Al × Int × Bool) : Prop where
  da : DA W wr x lj N D
  kp : Kd w wr D
  hn : lj.a.n = n
  e : Al.toc c (n - j) j lj = R
/-- In its third. -/
structure Tf (W w wr : World) (x : Rq) (n j N : Nat) (D : List Nat) (lj : Al) (R : Al × Option Nat) : Prop where
  da : DA W wr x lj N D
  kp : Kd w wr D
  hn : lj.a.n = n
  e : Al.sof (n - j) j lj = R

set_option maxHeartbeats 4000000 in
set_option maxRecDepth 100000 in
theorem ra_take_core (n lb ub uc rb cb : Nat) (m c v e0 : Int) (r1 : Al) (hN : N ≤ 2000) (h8 : 8 ≤ n) (hn5 : n ≤ 512) (hc : 0 ≤ c) (hc5 : c ≤ 5) (hm : Hid (gc m = c)) (hn : Hid (al.a.n = n)) (hR : Hid (al.takeC c = (r1, v, e0)))
    (h : Hid (DA W w ⟨lb, ub, uc, rb, cb⟩ al N D)) :
    Calls Tryz.prog 38 #[.pointer (some ⟨lb, 0, none⟩), .int .i64 m] w fun e w' => e = .returned (.int .i64 v) ∧ DA W w' ⟨lb, ub, uc, rb, cb⟩ r1 (N + 1) D ∧ Kd w w' D := by
  obtain ⟨q1, v1, b1, hq⟩ : ∃ q1 v1 b1, Al.toc c (n - 1) 1 al = (q1, v1, b1) := ⟨_, _, _, rfl⟩
  have T1 : Hid (b1 = true → (q1, v1, (0 : Int)) = (r1, v, e0)) := hide fun hb => by
    have := unhide hR
    unfold Al.takeC at this
    rw [unhide hn, hq, if_pos hb] at this
    exact this
  have T2 : Hid (b1 = false → q1.take2 c = (r1, v, e0)) := hide fun hb => by
    have := unhide hR
    unfold Al.takeC at this
    rw [unhide hn, hq, if_neg (by simp [hb])] at this
    exact this
  have CC := hide (rclass_any m w)
  rw [unhide hm] at CC
  replace hq := hide hq
  clear hR hm
  go_enter Tryz.func38, Tryz.ntmps38
  go_wp2_with fail
  refine (unhide CC).mono ?_
  rintro e w1 ⟨rfl, g1⟩
  have R0 : Hid (Td W w w1 ⟨lb, ub, uc, rb, cb⟩ c n 1 N D al (q1, v1, b1)) := hide ⟨((unhide h).gr g1).1, ((unhide h).gr g1).2, unhide hn, unhide hq⟩
  clear h CC g1 hn hq
  go_wp2_with fail
  go_loopw [6] (fun i wr => ∃ (j : Nat) (lj : Al), 1 ≤ j ∧ j ≤ n ∧ i = .int .i64 j ∧ Hid (Td W w wr ⟨lb, ub, uc, rb, cb⟩ c n j N D lj (q1, v1, b1))) (fun i _ => n - (intOf i).toNat)
  case atStart => exact ⟨1, al, Nat.le_refl _, by omega, rfl, R0⟩
  case round =>
    obtain ⟨j, lj, hj1, hj, rfl, R⟩ := hrel
    clear R0
    obtain ⟨c0, _, cc, c2⟩ := (unhide R).da.cells
    rw [(unhide R).hn] at c2
    simp only at c0 c2
    by_cases hjn : j = n
    · subst hjn
      have he := (unhide R).e
      rw [Nat.sub_self] at he
      injection he with e1 e2
      injection e2 with e2 e3
      subst e1
      have T3 := hide (unhide T2 e3.symm)
      have D0 : Hid (DA W wr ⟨lb, ub, uc, rb, cb⟩ lj N D ∧ Kd w wr D ∧ lj.a.n = j) := hide ⟨(unhide R).da, (unhide R).kp, (unhide R).hn⟩
      clear T1 T2 R e2 e3
      go_wp2_with fail
      obtain ⟨o, ho⟩ : ∃ o, lj.a.wo (j - 1) 1 = o := ⟨_, rfl⟩
      have U2 : Hid (∀ s, o = some s → lj.first s c = (r1, v, e0)) := hide fun s hs => by
        have := unhide T3
        unfold Al.take2 at this
        rw [(unhide D0).2.2, ho, hs] at this
        exact this
      have U3 : Hid (o = none → lj.take3 c = (r1, v, e0)) := hide fun hs => by
        have := unhide T3
        unfold Al.take2 at this
        rw [(unhide D0).2.2, ho, hs] at this
        exact this
      clear T3 c0 c2
      have E0 : Hid (DA W wr ⟨lb, ub, uc, rb, cb⟩ lj N D ∧ Kd w wr D ∧ lj.a.n = j ∧ lj.a.wo (j - 1) 1 = o) := hide ⟨(unhide D0).1, (unhide D0).2.1, (unhide D0).2.2, ho⟩
      clear ho D0
      go_loopw [8] (fun i wq => ∃ k : Nat, 1 ≤ k ∧ k ≤ j ∧ i = .int .i64 k ∧ Hid (DA W wq ⟨lb, ub, uc, rb, cb⟩ lj N D ∧ Kd w wq D ∧ lj.a.n = j ∧ lj.a.wo (j - k) k = o)) (fun i _ => j - (intOf i).toNat)
      case atStart => exact ⟨1, Nat.le_refl _, hj1, rfl, E0⟩
      case round =>
        obtain ⟨k, hk1, hk, rfl, E⟩ := hrel
        clear E0
        obtain ⟨c0, _, cc, c2⟩ := (unhide E).1.cells
        rw [(unhide E).2.2.1] at c2
        simp only at c0 c2
        by_cases hkj : k = j
        · subst hkj
          have he := (unhide E).2.2.2
          rw [Nat.sub_self] at he
          have he2 : o = none := he.symm
          have T3 := hide (unhide U3 he2)
          obtain ⟨q3, o3, hq3⟩ : ∃ q3 o3, Al.sof k 0 lj = (q3, o3) := ⟨_, _, rfl⟩
          have V1 : Hid (∀ s, o3 = some s → q3.first s c = (r1, v, e0)) := hide fun s hs => by
            have := unhide T3
            unfold Al.take3 at this
            rw [(unhide E).2.2.1, hq3] at this
            simp only [hs] at this
            exact this
          have V2 : Hid (o3 = none → (q3, (0 : Int), (5 : Int)) = (r1, v, e0)) := hide fun hs => by
            have := unhide T3
            unfold Al.take3 at this
            rw [(unhide E).2.2.1, hq3] at this
            simp only [hs] at this
            exact this
          rw [sof_zero (unhide E).1.u0 hk1] at hq3
          have F0 : Hid (Tf W w _ ⟨lb, ub, uc, rb, cb⟩ k 1 N D lj (q3, o3)) := hide ⟨(unhide E).1, (unhide E).2.1, (unhide E).2.2.1, hq3⟩
          clear U2 U3 T3 E hq3 he he2
          go_wp2_with fail
          go_loopw [9] (fun i wq => ∃ (t : Nat) (lt : Al), 1 ≤ t ∧ t ≤ k ∧ i = .int .i64 t ∧ Hid (Tf W w wq ⟨lb, ub, uc, rb, cb⟩ k t N D lt (q3, o3))) (fun i _ => k - (intOf i).toNat)
          case atStart => exact ⟨1, lj, Nat.le_refl _, hk1, rfl, F0⟩
          case round =>
            obtain ⟨t, lt, ht1, ht, rfl, F⟩ := hrel
            clear F0 c0 c2
            obtain ⟨c0, _, cc, c2⟩ := (unhide F).da.cells
            rw [(unhide F).hn] at c2
            simp only at c0 c2
            by_cases htk : t = k
            · subst htk
              have he := (unhide F).e
              rw [Nat.sub_self] at he
              injection he with e1 e2
              have q := unhide V2 e2.symm
              clear e2
              injection q with f1 f2
              injection f2 with f2 f3
              subst e1 f1 f2
              have DF := hide (unhide F).da.up
              have kp := hide (unhide F).kp
              clear F V1 V2
              go_wp2_with fail
              go_ret
              exact ⟨rfl, unhide DF, unhide kp⟩
            · have htl : (t : Int) < (k : Int) := by omega
              have htk' : t < k := by omega
              have hta : t < lt.a.n := by rw [(unhide F).hn]; exact htk'
              have CS := hide (ra_sweep (hide (unhide F).da) hN ht1 hta)
              simp only at CS
              by_cases hu : lt.u t = true
              · have es : lt.swp t = lt.sweep t := by unfold Al.swp; rw [if_pos hu]
                rw [hu, es] at CS
                have X1 : Hid ((lt.sweep t).a.clsI t < 0 → (lt.sweep t, some t) = (q3, o3)) := hide fun hc => (sof_hit htk' hu (by omega)).symm.trans (unhide F).e
                have X2 : Hid (¬ (lt.sweep t).a.clsI t < 0 → Al.sof (k - (t + 1)) (t + 1) (lt.sweep t) = (q3, o3)) := hide fun hc => (sof_miss htk' hu (by omega)).symm.trans (unhide F).e
                have hsn : Hid ((lt.sweep t).a.n = k) := hide (by rw [Al.sweep_n]; exact (unhide F).hn)
                have kp := hide (unhide F).kp
                generalize lt.sweep t = lu at *
                clear F es hu hta
                go_wp2_with fail
                refine (unhide CS).mono ?_
                rintro e w3 ⟨rfl, D3, K3⟩
                replace kp := hide ((unhide kp).trans K3)
                have htu : t < lu.a.n := by rw [unhide hsn]; exact htk'
                clear CS K3 c0 c2
                obtain ⟨c0, _, cc, c2⟩ := D3.cells
                rw [unhide hsn] at c2
                simp only at c0 c2
                obtain ⟨v3, _⟩ := D3.cls htu
                simp only at v3
                have hI := lu.a.clsI_at ht1 htu
                replace D3 := hide D3
                by_cases hng : lu.a.cls t < 0
                · have q := unhide X1 (by rw [hI]; exact hng)
                  injection q with e1 e2
                  have q2 := unhide V1 t e2.symm
                  subst e1
                  have CG := hide (ra_give D3 hN ht1 htu hng hc hc5)
                  simp only at CG
                  rw [q2] at CG
                  simp only at CG
                  have hd : decide (lu.a.cls t < 0) = true := by simpa using hng
                  generalize lu.a.cls t = k3 at v3 hng hd
                  clear X1 X2 V1 V2 q2 e2 hI D3 hng
                  go_wp2_with fail
                  refine (unhide CG).mono ?_
                  rintro e w5 ⟨rfl, D5, K5⟩
                  replace D5 := hide D5
                  replace kp := hide ((unhide kp).trans K5)
                  clear CG K5
                  go_wp2_with fail
                  go_ret
                  exact ⟨rfl, unhide D5, unhide kp⟩
                · have q := unhide X2 (by rw [hI]; omega)
                  have FF : Hid (Tf W w w3 ⟨lb, ub, uc, rb, cb⟩ k (t + 1) N D lu (q3, o3)) := hide ⟨unhide D3, unhide kp, unhide hsn, q⟩
                  generalize lu.a.cls t = k3 at v3 hng
                  have hd : decide (k3 < 0) = false := by simpa using hng
                  clear X1 X2 q D3 kp hI hng
                  go_wp2_with fail
                  go_roundw
                  case rel => exact ⟨t + 1, lu, by omega, by omega, by go_num, FF⟩
                  case measure => simp [intOf]; omega
              · have hu' : lt.u t = false := by simpa using hu
                have es : lt.swp t = lt := by unfold Al.swp; rw [if_neg hu]
                rw [hu', es] at CS
                have q := (sof_skip htk' hu).symm.trans (unhide F).e
                have hsn := hide (unhide F).hn
                have kp := hide (unhide F).kp
                replace q := hide q
                clear F es hu hu' hta
                go_wp2_with fail
                refine (unhide CS).mono ?_
                rintro e w3 ⟨rfl, D3, K3⟩
                have FF : Hid (Tf W w w3 ⟨lb, ub, uc, rb, cb⟩ k (t + 1) N D lt (q3, o3)) := hide ⟨D3, (unhide kp).trans K3, unhide hsn, unhide q⟩
                clear CS D3 K3 kp q c0 c2
                go_wp2_with fail
                go_roundw
                case rel => exact ⟨t + 1, lt, by omega, by omega, by go_num, FF⟩
                case measure => simp [intOf]; omega
        · have hkl : (k : Int) < (j : Int) := by omega
          have hkj' : k < j := by omega
          have hka : k < lj.a.n := by rw [(unhide E).2.2.1]; exact hkj'
          obtain ⟨v2, _⟩ := (unhide E).1.cls hka
          simp only at v2
          have hI := lj.a.clsI_at hk1 hka
          by_cases hng : lj.a.cls k < 0
          · have ho := (wo_hit hkj' (a := lj.a) (by rw [hI]; omega)).symm.trans (unhide E).2.2.2
            have q2 := unhide U2 k ho.symm
            have CG := hide (ra_give (hide (unhide E).1) hN hk1 hka hng hc hc5)
            simp only at CG
            rw [q2] at CG
            simp only at CG
            have kp := hide (unhide E).2.1
            have hd : decide (lj.a.cls k < 0) = true := by simpa using hng
            generalize lj.a.cls k = k3 at v2 hng hd
            clear U2 U3 q2 ho hI E hng hka
            go_wp2_with fail
            refine (unhide CG).mono ?_
            rintro e w5 ⟨rfl, D5, K5⟩
            replace D5 := hide D5
            replace kp := hide ((unhide kp).trans K5)
            clear CG K5
            go_wp2_with fail
            go_ret
            exact ⟨rfl, unhide D5, unhide kp⟩
          · have ho := (wo_skip hkj' (a := lj.a) (by rw [hI]; omega)).symm.trans (unhide E).2.2.2
            have EE : Hid (DA W _ ⟨lb, ub, uc, rb, cb⟩ lj N D ∧ Kd w _ D ∧ lj.a.n = j ∧ lj.a.wo (j - (k + 1)) (k + 1) = o) := hide ⟨(unhide E).1, (unhide E).2.1, (unhide E).2.2.1, ho⟩
            generalize lj.a.cls k = k3 at v2 hng
            have hd : decide (k3 < 0) = false := by simpa using hng
            clear E ho hI hng hka
            go_wp2_with fail
            go_roundw
            case rel => exact ⟨k + 1, by omega, by omega, by go_num, EE⟩
            case measure => simp [intOf]; omega
    · have hjl : (j : Int) < (n : Int) := by omega
      have hjn' : j < n := by omega
      have hja : j < lj.a.n := by rw [(unhide R).hn]; exact hjn'
      obtain ⟨v2, _⟩ := (unhide R).da.cls hja
      simp only at v2
      have hI := lj.a.clsI_at hj1 hja
      by_cases hcc : lj.a.cls j = c
      · rw [hcc] at v2
        have hnn : (c != c) = false := by simp
        have R4 : Hid ((lj.swp j).a.takeE j = 0 → (⟨(lj.swp j).a.takeA j, (lj.swp j).u⟩, (lj.swp j).a.takeV j, true) = (q1, v1, b1)) := hide fun he => (toc_hit hjn' (hI.trans hcc) he).symm.trans (unhide R).e
        have R5 : Hid (¬ (lj.swp j).a.takeE j = 0 → Al.toc c (n - (j + 1)) (j + 1) (lj.swp j) = (q1, v1, b1)) := hide fun he => (toc_miss hjn' (hI.trans hcc) he).symm.trans (unhide R).e
        have hsc := hide (swp_cls lj j)
        rw [hcc] at hsc
        have hsn : Hid ((lj.swp j).a.n = n) := hide (by rw [Al.swp_n]; exact (unhide R).hn)
        have CS := hide (ra_sweep (hide (unhide R).da) hN hj1 hja)
        simp only at CS
        have kp := hide (unhide R).kp
        generalize lj.u j = uj at CS
        generalize lj.swp j = lu at *
        clear R hI hcc hja
        go_wp2_with fail
        refine (unhide CS).mono ?_
        rintro e w3 ⟨rfl, D3, K3⟩
        replace kp := hide ((unhide kp).trans K3)
        have hju : j < lu.a.n := by rw [unhide hsn]; exact hjn'
        clear CS K3 c0 c2 v2
        obtain ⟨c0, _, cc, c2⟩ := D3.cells
        rw [unhide hsn] at c2
        simp only at c0 c2
        obtain ⟨v3, _⟩ := D3.cls hju
        simp only at v3
        replace D3 := hide D3
        by_cases hc3 : lu.a.cls j = c
        · have CT := hide (da_take D3 hN hj1 hju (by omega))
          rw [hc3] at v3
          simp only at CT
          have hcq : (c == c) = true := by simp
          replace hju := hide hju
          by_cases he : lu.a.takeE j = 0
          · have q := unhide R4 he
            injection q with e1 e2
            injection e2 with e2 e3
            have q2 := unhide T1 e3.symm
            injection q2 with f1 f2
            injection f2 with f2 f3
            rw [e2, f2] at CT
            have S5 : Hid (⟨lu.a.takeA j, lu.u⟩ = r1) := hide (e1.trans f1)
            clear e1 e2 e3 f1 f2 f3 R4 R5 T1 T2
            go_wp2_with fail
            refine (unhide CT).mono ?_
            rintro e w4 ⟨rfl, D4, K4, p4, _⟩
            have hpos := p4 he
            have hvz : (v != 0) = true := by simp; omega
            rw [unhide S5] at D4
            replace D4 := hide D4
            replace kp := hide ((unhide kp).trans K4)
            clear K4 p4 hpos CT he
            go_wp2_with fail
            go_ret
            exact ⟨rfl, unhide D4, unhide kp⟩
          · have q := unhide R5 he
            clear R4 R5
            go_wp2_with fail
            refine (unhide CT).mono ?_
            rintro e w4 ⟨rfl, _, K4, _, p4⟩
            obtain ⟨z4, D4⟩ := p4 he
            rw [z4]
            replace kp := (unhide kp).trans K4
            have RR : Hid (Td W w w4 ⟨lb, ub, uc, rb, cb⟩ c n (j + 1) N D lu (q1, v1, b1)) := hide ⟨D4, kp, unhide hsn, q⟩
            clear K4 p4 z4 D4 CT kp he D3
            go_wp2_with fail
            go_roundw
            case rel => exact ⟨j + 1, lu, by omega, by omega, by go_num, RR⟩
            case measure => simp [intOf]; omega
        · have hneg : lu.a.cls j < 0 := by
            rcases unhide hsc with e | e
            · exact absurd e hc3
            · omega
          have q := unhide R5 (takeE_none hj1 hju hneg)
          have RR : Hid (Td W w w3 ⟨lb, ub, uc, rb, cb⟩ c n (j + 1) N D lu (q1, v1, b1)) := hide ⟨unhide D3, unhide kp, unhide hsn, q⟩
          generalize lu.a.cls j = k3 at v3 hc3
          have hne : (k3 == c) = false := by simpa using hc3
          clear R4 R5 q hneg D3 kp hsc
          go_wp2_with fail
          go_roundw
          case rel => exact ⟨j + 1, lu, by omega, by omega, by go_num, RR⟩
          case measure => simp [intOf]; omega
      · have RR : Hid (Td W w wr ⟨lb, ub, uc, rb, cb⟩ c n (j + 1) N D lj (q1, v1, b1)) := hide ⟨(unhide R).da, (unhide R).kp, (unhide R).hn, (toc_skip hjn' (by rw [hI]; exact hcc)).symm.trans (unhide R).e⟩
        clear R hI
        generalize lj.a.cls j = k at v2 hcc
        have hne : (k != c) = true := by simpa using hcc
        go_wp2_with fail
        go_roundw
        case rel => exact ⟨j + 1, lj, by omega, by omega, by go_num, RR⟩
        case measure => simp [intOf]; omega
end
end Go.Proofs.YtinehimleldkdaaGreatDoor

/- The contracts of an Alloc's other calls. -/
namespace Go.Proofs.YtinehimleldkdaaGreatDoor
set_option maxRecDepth 100000
open Go.RowKit Go.Maps Go.ChangeShapes Go.WideShapes Go.ChangeAt

section
variable {W w : World} {x : Ld} {l : Al}

set_option maxHeartbeats 1000000 in
theorem l_first_core (s n ub cu : Nat) (c : Int) (hs : s < n) (r1 : Al) (v e : Int) (hn : Hid (l.a.n = n)) (hub : Hid (x.ub = ub)) (hcu : Hid (x.cu = cu)) (hR : Hid (l.first s c = (r1, v, e))) (h : Hid (StL W w x l)) :
    Calls Tryz.prog 66 #[.pointer (some ⟨x.lb, 0, none⟩), .int .i64 (s : Int), .int .i64 c] w fun r w' => r = .returned (.tuple #[.int .i64 v, .int .i64 e]) ∧ StL W w' x r1 ∧ TnL w w' x := by
  have hsn : s < l.a.n := by rw [unhide hn]; exact hs
  have c1 : w.cell? ⟨x.lb, 1, none⟩ = some (.slice (some ⟨ub, 0, none⟩) n cu) := by rw [← unhide hub, ← unhide hcu, ← unhide hn]; exact (unhide h).c1
  have u1 : w.cell? ⟨ub, s, none⟩ = some (.bool (l.u s)) := by rw [← unhide hub]; exact (unhide h).us s hsn
  have f1 : w.frozen? ⟨ub, s, none⟩ = false := by rw [← unhide hub]; exact (unhide h).fu s
  have S1 : Hid (StL W (w.setCell ⟨ub, s, none⟩ (.bool false)) x ⟨l.a, upd l.u s false⟩) := hide (by rw [← unhide hub]; exact (unhide h).setU hsn false)
  have t1 : Hid (TnL w (w.setCell ⟨ub, s, none⟩ (.bool false)) x) := hide (by rw [← unhide hub]; exact (TnL.refl w x).set s _)
  have c0 := (unhide S1).c0
  clear h hsn
  generalize l.u s = uu at u1
  go_enter Tryz.func66, Tryz.ntmps66
  go_wp2_with fail
  refine (ls_set S1 s c).mono ?_
  rintro r w2 ⟨rfl, S2, t2⟩
  replace t2 := hide ((unhide t1).trans t2)
  replace S2 := hide S2
  clear S1 t1 c0 c1 u1 f1
  by_cases hE : l.a.setE s c = 0
  · have q := unhide hR
    unfold Al.first at q
    rw [if_pos hE] at q
    injection q with q1 q2
    injection q2 with q2 q3
    subst q1 q2 q3
    have c0 := (unhide S2).c0
    simp only [hE]
    go_wp2_with fail
    refine (ls_take S2 s).mono ?_
    rintro r w3 ⟨rfl, S3, t3⟩
    replace t3 := hide ((unhide t2).trans t3)
    replace S3 := hide S3
    clear S2 t2 c0
    simp only
    generalize hv : (l.a.setA s c).takeV s = v
    generalize he : (l.a.setA s c).takeE s = e
    go_wp2_with fail
    go_returns
    exact ⟨by first | rfl | (rw [hv, he]; rfl), unhide S3, unhide t3⟩
  · have q := unhide hR
    unfold Al.first at q
    rw [if_neg hE] at q
    injection q with q1 q2
    injection q2 with q2 q3
    subst q1 q2
    have hA : l.a.setA s c = l.a := by unfold Ab.setA; rw [if_neg hE]
    rw [hA] at S2
    simp only [q3]
    rw [q3] at hE
    have hne : (e != 0) = true := by simpa using hE
    go_wp2_with fail
    go_returns
    exact ⟨rfl, unhide S2, unhide t2⟩
theorem l_first (h : Hid (StL W w x l)) (s : Nat) (hs : s < l.a.n) (c : Int) :
    Calls Tryz.prog 66 #[.pointer (some ⟨x.lb, 0, none⟩), .int .i64 (s : Int), .int .i64 c] w fun r w' => r = .returned (.tuple #[.int .i64 (l.first s c).2.1, .int .i64 (l.first s c).2.2]) ∧ StL W w' x (l.first s c).1 ∧ TnL w w' x :=
  l_first_core s l.a.n x.ub x.cu c hs _ _ _ (hide rfl) (hide rfl) (hide rfl) (hide rfl) h

theorem wo_lt {a : Ab} : ∀ (k s t : Nat), a.wo k s = some t → s ≤ t ∧ t < s + k
  | 0, _, _, h => by cases h
  | k + 1, s, t, h => by
    unfold Ab.wo at h
    split at h
    · have := wo_lt k (s + 1) t h; omega
    · injection h with h; omega
theorem sof_lt : ∀ (k s t : Nat) (l : Al), (Al.sof k s l).2 = some t → s ≤ t ∧ t < s + k
  | 0, _, _, _, h => by cases h
  | k + 1, s, t, l, h => by
    unfold Al.sof at h
    split at h
    · split at h
      · have := sof_lt k (s + 1) t _ h; omega
      · injection h with h; omega
    · have := sof_lt k (s + 1) t _ h; omega

set_option maxHeartbeats 1000000 in
theorem l_take_core (m c : Int) (hc : 0 ≤ c) (hm : Hid (gc m = c)) (R : Al × Int × Int) (hR : Hid (l.takeC c = R)) (h : Hid (StL W w x l)) :
    Calls Tryz.prog 36 #[.pointer (some ⟨x.lb, 0, none⟩), .int .i64 m] w fun r w' => r = .returned (.tuple #[.int .i64 R.2.1, .int .i64 R.2.2]) ∧ StL W w' x R.1 ∧ TnL w w' x := by
  have hcl := hide (class_any m w)
  rw [unhide hm] at hcl
  have hd : decide (c < 0) = false := by simp; omega
  go_enter Tryz.func36, Tryz.ntmps36
  go_wp2_with fail
  refine (unhide hcl).mono ?_
  rintro r w1 ⟨rfl, hw1⟩
  subst hw1
  clear hcl
  go_wp2_with fail
  refine (l_toc h c).mono ?_
  rintro r w2 ⟨rfl, S2, t2⟩
  have hR := unhide hR
  unfold Al.takeC at hR
  generalize Al.toc c (l.a.n - 1) 1 l = q at hR S2
  obtain ⟨r1, v1, b1⟩ := q
  simp only at hR S2 ⊢
  replace S2 := hide S2
  replace t2 := hide t2
  clear h
  by_cases hb : b1 = true
  · subst hb
    rw [if_pos rfl] at hR
    subst hR
    go_wp2_with fail
    go_returns
    exact ⟨rfl, unhide S2, unhide t2⟩
  · have hb' : b1 = false := by simpa using hb
    subst hb'
    rw [if_neg hb] at hR
    clear hb
    go_wp2_with fail
    refine (l_wo S2).mono ?_
    rintro r w3 ⟨rfl, S3, g3⟩
    replace t2 := hide ((unhide t2).G g3)
    clear g3 S2
    replace S3 := hide S3
    unfold Al.take2 at hR
    have hlt := hide (wo_lt (a := r1.a) (r1.a.n - 1) 1)
    generalize r1.a.wo (r1.a.n - 1) 1 = o at hR hlt
    cases o with
    | some s =>
      simp only [optI, Option.isSome] at hR ⊢
      have hs : Hid (s < r1.a.n) := hide (by have := unhide hlt s rfl; have := (unhide S3).st.n8; omega)
      clear hlt
      go_wp2_with fail
      refine (l_first S3 s (unhide hs) c).mono ?_
      rw [hR]
      rintro r w4 ⟨rfl, S4, t4⟩
      replace t4 := hide ((unhide t2).trans t4)
      replace S4 := hide S4
      clear S3 t2
      generalize hv : R.2.1 = v
      generalize he : R.2.2 = e
      go_wp2_with fail
      go_returns
      exact ⟨by first | rfl | (rw [hv, he]; rfl), unhide S4, unhide t4⟩
    | none =>
      simp only [optI, Option.isSome] at hR ⊢
      clear hlt
      go_wp2_with fail
      refine (l_sof S3).mono ?_
      rintro r w4 ⟨rfl, S4, t4⟩
      unfold Al.take3 at hR
      replace t4 := hide ((unhide t2).trans t4)
      have hlt := hide (sof_lt r1.a.n 0 · r1)
      have hnn := hide (Al.sof_n r1.a.n 0 r1)
      have h3n := hide (rfl : r1.a.n = r1.a.n)
      generalize Al.sof r1.a.n 0 r1 = q at hR S4 hlt hnn
      obtain ⟨r2, o⟩ := q
      simp only at hR S4 hlt hnn ⊢
      replace S4 := hide S4
      clear t2 S3 h3n
      cases o with
      | some s =>
        simp only [optI, Option.isSome] at hR ⊢
        have hs : Hid (s < r2.a.n) := hide (by have := unhide hlt s rfl; rw [unhide hnn]; omega)
        clear hlt hnn
        go_wp2_with fail
        refine (l_first S4 s (unhide hs) c).mono ?_
        rw [hR]
        rintro r w5 ⟨rfl, S5, t5⟩
        replace t5 := hide ((unhide t4).trans t5)
        replace S5 := hide S5
        clear S4 t4
        generalize hv : R.2.1 = v
        generalize he : R.2.2 = e
        go_wp2_with fail
        go_returns
        exact ⟨by first | rfl | (rw [hv, he]; rfl), unhide S5, unhide t5⟩
      | none =>
        simp only [optI, Option.isSome] at hR ⊢
        clear hlt hnn
        subst hR
        go_wp2_with fail
        go_returns
        exact ⟨rfl, unhide S4, unhide t4⟩

theorem gc_r' (n : Int) : -1 ≤ gc n ∧ gc n ≤ 5 := by
  unfold gc
  repeat' split
  all_goals omega
set_option maxHeartbeats 400000 in
theorem l_take_no (m : Int) (hc : gc m < 0) (h : Hid (StL W w x l)) :
    Calls Tryz.prog 36 #[.pointer (some ⟨x.lb, 0, none⟩), .int .i64 m] w fun r w' => r = .returned (.tuple #[.int .i64 0, .int .i64 1]) ∧ StL W w' x l ∧ TnL w w' x := by
  have hcl := hide (class_any m w)
  have e : gc m = -1 := by have := gc_r' m; omega
  rw [e] at hcl
  clear hc e
  go_enter Tryz.func36, Tryz.ntmps36
  go_wp2_with fail
  refine (unhide hcl).mono ?_
  rintro r w1 ⟨rfl, hw1⟩
  subst hw1
  clear hcl
  go_wp2_with fail
  go_returns
  exact ⟨rfl, unhide h, TnL.refl _ _⟩
theorem l_take (h : Hid (StL W w x l)) (m : Int) :
    Calls Tryz.prog 36 #[.pointer (some ⟨x.lb, 0, none⟩), .int .i64 m] w fun r w' => r = .returned (.tuple #[.int .i64 (l.take m).2.1, .int .i64 (l.take m).2.2]) ∧ StL W w' x (l.take m).1 ∧ TnL w w' x := by
  unfold Al.take
  by_cases hc : gc m < 0
  · rw [if_pos hc]
    exact l_take_no m hc h
  · rw [if_neg hc]
    exact l_take_core m (gc m) (by omega) (hide rfl) _ (hide rfl) h

/-! ### least, SweepOne, Left, Unswept -/
theorem least_skip {u : Nat → Bool} {n j : Nat} (hj : j < n) (hu : ¬ u j = true) : leastU u (n - j) j = leastU u (n - (j + 1)) (j + 1) := by
  rw [show n - j = (n - (j + 1)) + 1 by omega, leastU, if_neg hu]
theorem least_hit {u : Nat → Bool} {n j : Nat} (hj : j < n) (hu : u j = true) : leastU u (n - j) j = some j := by
  rw [show n - j = (n - (j + 1)) + 1 by omega, leastU, if_pos hu]

theorem leastU_lt (u : Nat → Bool) : ∀ (k s t : Nat), leastU u k s = some t → s ≤ t ∧ t < s + k
  | 0, _, _, h => by cases h
  | k + 1, s, t, h => by
    unfold leastU at h
    split at h
    · injection h with h; omega
    · have := leastU_lt u k (s + 1) t h; omega

theorem unsN_le' (u : Nat → Bool) : ∀ k, unsN u k ≤ k
  | 0 => Nat.le_refl _
  | k + 1 => by have := unsN_le' u k; unfold unsN; split <;> omega

end
end Go.Proofs.YtinehimleldkdaaGreatDoor

/- The contracts of an Alloc's Stale, Unswept, Used and New; made() of package gantlinelaw5. -/
namespace Go.Proofs.YtinehimleldkdaaGreatDoor
set_option maxRecDepth 100000
open Go.RowKit Go.Maps Go.ChangeShapes Go.WideShapes Go.ChangeAt

section
variable {W w : World} {x : Ld} {l : Al}

/-! ### Unswept -/
/-! ### Stale -/
/-- The first j are made stale. -/
def Al.stl (l : Al) (j : Nat) : Al := ⟨l.a, fun s => (decide (s < j) && decide (0 ≤ l.a.clsI s)) || l.u s⟩
theorem Al.stl_zero (l : Al) : l.stl 0 = l := by
  unfold Al.stl
  simp
theorem Al.stl_skip (l : Al) {j : Nat} (hc : ¬ 0 ≤ l.a.clsI j) : l.stl (j + 1) = l.stl j := by
  unfold Al.stl
  congr 1
  funext s
  by_cases e : s = j
  · subst e; simp [hc]
  · have : decide (s < j + 1) = decide (s < j) := by simp; omega
    rw [this]
theorem Al.stl_set (l : Al) {j : Nat} (hc : 0 ≤ l.a.clsI j) : l.stl (j + 1) = ⟨l.a, upd (l.stl j).u j true⟩ := by
  unfold Al.stl
  congr 1
  funext s
  by_cases e : s = j
  · subst e; rw [upd_same]; simp [hc]
  · rw [upd_other _ _ e]
    have : decide (s < j + 1) = decide (s < j) := by simp; omega
    rw [this]

/-! ### Used -/
theorem used_bound {a : Ab} : ∀ k, 0 ≤ a.used k ∧ a.used k ≤ 4096 * k
  | 0 => by unfold Ab.used; omega
  | k + 1 => by
    have h := used_bound (a := a) k
    have h1 := popF_le 64 (a.tkI (k : Nat))
    have h2 : 0 ≤ gw (a.clsI (k : Nat)) ∧ gw (a.clsI (k : Nat)) ≤ 64 := by rcases gw_gp (a.clsI (k : Nat)) with ⟨e, _⟩ | ⟨_, e1, e2, _⟩ <;> omega
    have h3 : 0 ≤ (popF 64 (a.tkI (k : Nat)) : Int) * gw (a.clsI (k : Nat)) := Int.mul_nonneg (by omega) h2.1
    have h4 : (popF 64 (a.tkI (k : Nat)) : Int) * gw (a.clsI (k : Nat)) ≤ 64 * 64 := Int.mul_le_mul (by omega) h2.2 h2.1 (by decide)
    unfold Ab.used
    omega

end

/-! ### New -/
theorem info_bool : (Tryz.prog.info? 4).map (fun i => (i.zero, i.size, i.bytes)) = some (some (.bool false), 1, 1) := by kernel_rfl
theorem mk_bools (n : Nat) (hn : n ≤ 512) (w : World) : (Instr.makeSlice 103 (.int .i64 (n : Int)) (.int .i64 (n : Int))).run Tryz.prog w =
    .ok (.slice (some ⟨w.heap.size, 0, none⟩) n n) (w.alloc (.cells (madeCells #[.bool false] (n * 1)) 4)) := by
  obtain ⟨i0, hi0, hz0, hz1, hz2⟩ := info_parts info_bool
  have := run_make (P := Tryz.prog) w 103 4 i0 (.bool false) Tryz.underlying103 hi0 hz0 .i64 .i64 (n : Int) (n : Int) (by omega) (Int.le_refl _) (by rw [hz2]; omega) (by omega)
  rw [this, hz1]
  simp only [Int.toNat_natCast]
  rfl
theorem bools_at {w : World} {b n : Nat} (hb : w.heap[b]? = some (.cells (madeCells #[.bool false] (n * 1)) 4 (0, 0))) : (∀ s, s < n → w.cell? ⟨b, s, none⟩ = some (.bool false)) ∧ ∀ i, w.frozen? ⟨b, i, none⟩ = false := by
  refine ⟨fun s hs => ?_, fun i => by simp [World.frozen?, hb]⟩
  have := made_get #[.bool false] (n * 1) s (by omega)
  simp only [World.cell?, hb]
  rw [this]
  simp [Nat.mod_one]

theorem lnew_at {W w : World} {d : Ad} {n : Nat} (C : Array Value) (h : St W w d (ab0 n)) (H : ∀ (w : World) b, w.heap[b]? = some (.cells C 4 (0, 0)) → (∀ s, s < n → w.cell? ⟨b, s, none⟩ = some (.bool false)) ∧ ∀ i, w.frozen? ⟨b, i, none⟩ = false) :
    StL W ((w.alloc (.cells C 4)).alloc (.cells #[.pointer (some ⟨d.ab, 0, none⟩), .slice (some ⟨w.heap.size, 0, none⟩) n n] 124)) ⟨w.heap.size + 1, w.heap.size, n, d⟩ (al0 n) ∧
    G w ((w.alloc (.cells C 4)).alloc (.cells #[.pointer (some ⟨d.ab, 0, none⟩), .slice (some ⟨w.heap.size, 0, none⟩) n n] 124)) := by
  have g : G w ((w.alloc (.cells C 4)).alloc (.cells #[.pointer (some ⟨d.ab, 0, none⟩), .slice (some ⟨w.heap.size, 0, none⟩) n n] 124)) := (G.alloc w _).more _
  have b1 : ((w.alloc (.cells C 4)).alloc (.cells #[.pointer (some ⟨d.ab, 0, none⟩), .slice (some ⟨w.heap.size, 0, none⟩) n n] 124)).heap[w.heap.size]? = some (.cells C 4 (0, 0)) := by
    rw [_root_.Go.heap_alloc_old _ _ (by rw [World.size_alloc]; omega)]
    exact heap_alloc_new w _
  have b2 : ((w.alloc (.cells C 4)).alloc (.cells #[.pointer (some ⟨d.ab, 0, none⟩), .slice (some ⟨w.heap.size, 0, none⟩) n n] 124)).heap[w.heap.size + 1]? = some (.cells #[.pointer (some ⟨d.ab, 0, none⟩), .slice (some ⟨w.heap.size, 0, none⟩) n n] 124 (0, 0)) := by
    have := heap_alloc_new (w.alloc (.cells C 4)) (.cells #[.pointer (some ⟨d.ab, 0, none⟩), .slice (some ⟨w.heap.size, 0, none⟩) n n] 124)
    rw [World.size_alloc] at this
    exact this
  have l0 := h.at_.lt0
  have l1 := h.at_.lt1 h.n8
  have l2 := h.at_.lt2 h.n8
  have hs := h.below.size
  obtain ⟨k1, k2⟩ := H _ _ b1
  refine ⟨⟨h.G g, by simp only [World.cell?, b2]; rfl, by simp only [World.cell?, b2]; rfl, k1, k2, by show W.heap.size ≤ w.heap.size + 1; omega, hs, by show w.heap.size + 1 ≠ w.heap.size; omega, ⟨by show w.heap.size + 1 ≠ d.wb; omega, by show w.heap.size + 1 ≠ d.sb; omega⟩, ⟨by show w.heap.size ≠ d.ab; omega, by show w.heap.size ≠ d.wb; omega, by show w.heap.size ≠ d.sb; omega⟩⟩, g⟩

set_option maxHeartbeats 1000000 in
theorem l_new_core {W w : World} {d : Ad} (n : Nat) (C : Array Value) (M : ∀ w, (Instr.makeSlice 103 (.int .i64 (n : Int)) (.int .i64 (n : Int))).run Tryz.prog w = .ok (.slice (some ⟨w.heap.size, 0, none⟩) n n) (w.alloc (.cells C 4)))
    (h : Hid (St W w d (ab0 n)))
    (R : Hid (StL W ((w.alloc (.cells C 4)).alloc (.cells #[.pointer (some ⟨d.ab, 0, none⟩), .slice (some ⟨w.heap.size, 0, none⟩) n n] 124)) ⟨w.heap.size + 1, w.heap.size, n, d⟩ (al0 n) ∧
      G w ((w.alloc (.cells C 4)).alloc (.cells #[.pointer (some ⟨d.ab, 0, none⟩), .slice (some ⟨w.heap.size, 0, none⟩) n n] 124)))) :
    Calls Tryz.prog 31 #[.pointer (some ⟨d.ab, 0, none⟩)] w fun e w' => ∃ x : Ld, e = .returned (.pointer (some ⟨x.lb, 0, none⟩)) ∧ x.d = d ∧ StL W w' x (al0 n) ∧ G w w' := by
  have hsp : Hid (Calls Tryz.prog 61 #[.pointer (some ⟨d.ab, 0, none⟩)] w fun e w' => e = .returned (.int .i64 (n : Int)) ∧ w' = w) := hide (st_spans h)
  go_enter Tryz.func31, Tryz.ntmps31
  go_wp2_with fail
  refine (unhide hsp).mono ?_
  rintro e w2 ⟨rfl, hw⟩
  subst hw
  clear hsp
  go_wp2_with fail
  go_ret
  exact ⟨⟨w2.heap.size + 1, w2.heap.size, n, d⟩, rfl, rfl, (unhide R).1, (unhide R).2⟩
theorem l_new {W w : World} {d : Ad} (n : Nat) (hn5 : n ≤ 512) (h : Hid (St W w d (ab0 n))) :
    Calls Tryz.prog 31 #[.pointer (some ⟨d.ab, 0, none⟩)] w fun e w' => ∃ x : Ld, e = .returned (.pointer (some ⟨x.lb, 0, none⟩)) ∧ x.d = d ∧ StL W w' x (al0 n) ∧ G w w' :=
  l_new_core n _ (mk_bools n hn5) h (hide (lnew_at _ (unhide h) fun _ _ hb => bools_at hb))

/-! ### the document's own, made beside it -/
set_option maxHeartbeats 400000 in
theorem rnewAlloc_core (w : World) (rb n : Nat) (co : Option Addr) (cc : Nat) (C : Array Value) (M : ∀ w, (Instr.makeSlice 103 (.int .i64 (n : Int)) (.int .i64 (n : Int))).run Tryz.prog w = .ok (.slice (some ⟨w.heap.size, 0, none⟩) n n) (w.alloc (.cells C 4)))
    (c0 : w.cell? ⟨rb, 0, none⟩ = some (.slice co n cc)) :
    Calls Tryz.prog 32 #[.pointer (some ⟨rb, 0, none⟩)] w fun e w' => (∃ b, e = .returned (.pointer (some ⟨b, 0, none⟩))) ∧ G w w' := by
  go_enter Tryz.func32, Tryz.ntmps32
  go_wp2_with fail
  go_ret
  exact ⟨⟨_, rfl⟩, (G.alloc w _).more _⟩

end Go.Proofs.YtinehimleldkdaaGreatDoor

/- The document's Alloc is made; its arena's Mark, Find, Maps, a word of a thing, through it. -/
namespace Go.Proofs.YtinehimleldkdaaGreatDoor
set_option maxRecDepth 100000
open Go.ChangeShapes Go.WideShapes Go.ChangeAt Go.RowKit Go.Maps

section
variable {W w w' : World} {x : Rq} {al : Al} {N : Nat} {D : List Nat}
theorem ra_take (h : Hid (DA W w x al N D)) (hN : N ≤ 2000) (m : Int) (hm : 0 ≤ gc m) :
    Calls Tryz.prog 38 #[.pointer (some ⟨x.lb, 0, none⟩), .int .i64 m] w fun e w' => e = .returned (.int .i64 (al.take m).2.1) ∧ DA W w' x (al.take m).1 (N + 1) D ∧ Kd w w' D := by
  have e : al.take m = al.takeC (gc m) := by unfold Al.take; rw [if_neg (by omega)]
  rw [e]
  exact ra_take_core al.a.n x.lb x.ub x.uc x.rb x.cb m (gc m) _ _ _ hN (unhide h).good.ok.n0 (unhide h).good.ok.n1 hm (gc_r' m).2 (hide rfl) (hide rfl) (hide rfl) h

theorem WdAt.lower {B B' : Nat} {m : Mt} (h : WdAt w B m) (hB : B' ≤ B) : WdAt w B' m := ⟨h.v, h.f, Nat.le_trans hB h.lo, h.hi, h.le, h.mx⟩
theorem RefAt.lower {B B' : Nat} {r : Rd} {cl : List Int} {l : List Mt} (h : RefAt w B r cl l) (hB : B' ≤ B) : RefAt w B' r cl l :=
  ⟨h.c0, h.c1, h.f0, h.cv, h.cf, h.cle, h.lle, h.lmx, h.row, fun a ha => ⟨(h.lf a ha).1, Nat.le_trans hB (h.lf a ha).2.1, (h.lf a ha).2.2⟩, h.nil, fun m hm => ⟨(h.wd m hm).1.lower hB, (h.wd m hm).2⟩, h.ap, Nat.le_trans hB h.b0, Nat.le_trans hB h.b1, h.h0, h.h1, h.ne⟩

set_option maxHeartbeats 400000 in
theorem rnewAlloc_raw (w : World) (rb n : Nat) (co : Option Addr) (cc : Nat) (C : Array Value) (M : ∀ w, (Instr.makeSlice 103 (.int .i64 (n : Int)) (.int .i64 (n : Int))).run Tryz.prog w = .ok (.slice (some ⟨w.heap.size, 0, none⟩) n n) (w.alloc (.cells C 4)))
    (c0 : w.cell? ⟨rb, 0, none⟩ = some (.slice co n cc)) :
    Calls Tryz.prog 32 #[.pointer (some ⟨rb, 0, none⟩)] w fun e w' => e = .returned (.pointer (some ⟨w.heap.size + 1, 0, none⟩)) ∧ w' = (w.alloc (.cells C 4)).alloc (.cells #[.pointer (some ⟨rb, 0, none⟩), .slice (some ⟨w.heap.size, 0, none⟩) n n] 126) := by
  go_enter Tryz.func32, Tryz.ntmps32
  go_wp2_with fail
  go_ret
  exact ⟨rfl, rfl⟩

theorem ra_new {r : Rd} (n : Nat) (h8 : 8 ≤ n) (hn5 : n ≤ 512) (RA : RefAt w W.heap.size r (List.replicate n (-1)) []) (hb : Below W.heap.size W w) (hD : ∀ d ∈ D, d < w.heap.size ∧ OffX d r []) :
    Calls Tryz.prog 32 #[.pointer (some ⟨r.rb, 0, none⟩)] w fun e w' => ∃ x : Rq, e = .returned (.pointer (some ⟨x.lb, 0, none⟩)) ∧ x.rb = r.rb ∧ DA W w' x (al0 n) 0 D ∧ G w w' := by
  have c0 := RA.c0
  rw [List.length_replicate] at c0
  refine (rnewAlloc_raw w r.rb n _ _ _ (mk_bools n hn5) c0).mono ?_
  rintro e w' ⟨rfl, rfl⟩
  refine ⟨⟨w.heap.size + 1, w.heap.size, n, r.rb, r.cb⟩, rfl, rfl, ?_, (G.alloc w _).more _⟩
  have g : G w ((w.alloc (.cells (madeCells #[.bool false] (n * 1)) 4)).alloc (.cells #[.pointer (some ⟨r.rb, 0, none⟩), .slice (some ⟨w.heap.size, 0, none⟩) n n] 126)) := (G.alloc w _).more _
  have b1 : ((w.alloc (.cells (madeCells #[.bool false] (n * 1)) 4)).alloc (.cells #[.pointer (some ⟨r.rb, 0, none⟩), .slice (some ⟨w.heap.size, 0, none⟩) n n] 126)).heap[w.heap.size]? = some (.cells (madeCells #[.bool false] (n * 1)) 4 (0, 0)) := by
    rw [_root_.Go.heap_alloc_old _ _ (by rw [World.size_alloc]; omega)]
    exact heap_alloc_new w _
  have b2 : ((w.alloc (.cells (madeCells #[.bool false] (n * 1)) 4)).alloc (.cells #[.pointer (some ⟨r.rb, 0, none⟩), .slice (some ⟨w.heap.size, 0, none⟩) n n] 126)).heap[w.heap.size + 1]? = some (.cells #[.pointer (some ⟨r.rb, 0, none⟩), .slice (some ⟨w.heap.size, 0, none⟩) n n] 126 (0, 0)) := by
    have := heap_alloc_new (w.alloc (.cells (madeCells #[.bool false] (n * 1)) 4)) (.cells #[.pointer (some ⟨r.rb, 0, none⟩), .slice (some ⟨w.heap.size, 0, none⟩) n n] 126)
    rw [World.size_alloc] at this
    exact this
  obtain ⟨k1, k2⟩ := bools_at b1
  have h0 := RA.h0
  have h1 := RA.h1
  have hlo : r.lo = none ∨ ∃ a, r.lo = some a := by cases r.lo <;> simp
  have hnl : ∀ a, r.lo = some a → a.block < w.heap.size := fun a ha => (RA.lf a ha).2.2.1
  have hs := hb.size
  have off : ∀ k, w.heap.size ≤ k → OffX k r [] := fun k hk => ⟨by omega, by omega, fun a ha => by have := hnl a ha; omega, fun m hm => by cases hm⟩
  refine ⟨r, List.replicate n (-1), [], ⟨RA.grown g, rfl, rfl, by simp only [World.cell?, b2]; rfl, by simp only [World.cell?, b2]; rfl, k1, k2, by show W.heap.size ≤ w.heap.size + 1; omega, hs, by show w.heap.size + 1 ≠ w.heap.size; omega, off _ (by show w.heap.size ≤ w.heap.size + 1; omega), off _ (Nat.le_refl _), rl_new n, ab0_good h8 hn5, Nat.le_refl _, rfl, hb.trans (g.mono hs), fun d hd => ?_⟩⟩
  obtain ⟨d0, d1⟩ := hD d hd
  exact ⟨Nat.lt_of_lt_of_le d0 g.size, by show d ≠ w.heap.size + 1; omega, by show d ≠ w.heap.size; omega, d1⟩

/-! ### Mark -/
theorem markI_mem' {l : List Mt} {i : Nat} {b : Bool} : ∀ m, m ∈ markI l i b → ∃ m0, m0 ∈ l ∧ m.wb = m0.wb := by
  intro m hm
  obtain ⟨m0, h0, h1, _⟩ := markI_wb l i b m hm
  exact ⟨m0, h0, h1⟩
theorem da_mark (h : Hid (DA W w x al N D)) (hN : N ≤ 2000) (y : Int) :
    Calls Tryz.prog 49 #[.pointer (some ⟨x.rb, 0, none⟩), .int .i64 y] w fun e w' => e = .returned (.bool (al.a.markB y)) ∧ DA W w' x ⟨al.a.markA y, al.u⟩ N D ∧ Kd w w' D := by
  obtain ⟨r, cl, l, h⟩ := unhide h
  have T := rmark_at h.ref (by have := h.ln; omega) y
  rw [h.erb] at T
  refine T.mono ?_
  rintro e w' (⟨rfl, rfl, hn⟩ | ⟨rfl, i, m, hm, hx, hr, RA, rn⟩)
  · obtain ⟨e1, e2⟩ := h.rl.mark_no h.good hn
    rw [e1, e2]
    exact ⟨rfl, ⟨r, cl, l, h⟩, Kd.refl _ _⟩
  · obtain ⟨e1, R'⟩ := h.rl.mark_yes h.good hm hx hr
    rw [e1]
    obtain ⟨H, K⟩ := h.rn RA rn ⟨rfl, rfl, fun _ h => Or.inl h, fun m hm => Or.inl (markI_mem' m hm)⟩ R' (h.good.markA y) (Ab.markA_n _ _) (N' := N) (by rw [markI_len]; exact h.ln)
    exact ⟨rfl, ⟨_, _, _, H⟩, K⟩

/-! ### Find, and a thing's words -/
/-- The thing at y is the i-th. -/
def DAt (W w : World) (x : Rq) (al : Al) (N : Nat) (D : List Nat) (y : Int) (i g n lc wb nw wc : Nat) : Prop :=
  ∃ r cl l m, Da W w x al N D r cl l ∧ l[i]? = some m ∧ m.t.addr = y ∧ r.lo = some ⟨g, 0, none⟩ ∧ l.length = n ∧ r.lc = lc ∧ m.wb = wb ∧ m.t.ws.length = nw ∧ m.wc = wc
theorem da_find (h : Hid (DA W w x al N D)) (hN : N ≤ 2000) (y : Int) :
    Calls Tryz.prog 48 #[.pointer (some ⟨x.rb, 0, none⟩), .int .i64 y] w fun e w' => w' = w ∧ ((e = .returned (.int .i64 (-1)) ∧ al.a.is y = false) ∨ ∃ (i g n lc wb nw wc : Nat), e = .returned (.int .i64 (i : Int)) ∧ al.a.is y = true ∧ DAt W w x al N D y i g n lc wb nw wc) := by
  obtain ⟨r, cl, l, h⟩ := unhide h
  have T := rfind_at h.ref (by have := h.ln; omega) y
  rw [h.erb] at T
  refine T.mono ?_
  rintro e w' ⟨rfl, rfl⟩
  refine ⟨rfl, ?_⟩
  rcases findI_cases (things l) y with ⟨e1, hn⟩ | ⟨i, t, e1, hi, ha⟩
  · exact Or.inl ⟨by rw [e1], h.rl.rel.no_is h.good hn⟩
  · obtain ⟨m, hm, rfl⟩ : ∃ m, l[i]? = some m ∧ m.t = t := by
      unfold things at hi
      rw [List.getElem?_map] at hi
      exact Option.map_eq_some_iff.1 hi
    obtain ⟨b, eb, _⟩ := h.ref.row i m hm
    exact Or.inr ⟨i, b, l.length, r.lc, m.wb, m.t.ws.length, m.wc, by rw [e1], (h.rl.rel.mark_at h.good (List.mem_of_getElem? (things_get hm)) ha).1, r, cl, l, m, h, hm, ha, eb, rfl, rfl, rfl, rfl, rfl⟩
section
variable {y : Int} {i g n lc wb nw wc : Nat}
theorem DAt.da (h : DAt W w x al N D y i g n lc wb nw wc) : DA W w x al N D := by obtain ⟨r, cl, l, m, h, _⟩ := h; exact ⟨r, cl, l, h⟩
theorem DAt.cells (h : DAt W w x al N D y i g n lc wb nw wc) : w.cell? ⟨x.rb, 1, none⟩ = some (.slice (some ⟨g, 0, none⟩) n lc) ∧ w.cell? ⟨g, i * 3, none⟩ = some (.int .i64 y) ∧ w.cell? ⟨g, i * 3 + 1, none⟩ = some (.slice (some ⟨wb, 0, none⟩) nw wc) ∧ i < n ∧ n ≤ N ∧ (nw : Int) = gw (al.a.clsI (gs y)) := by
  obtain ⟨r, cl, l, m, h, hm, rfl, hlo, rfl, rfl, rfl, rfl, rfl⟩ := h
  have c1 := h.ref.c1
  rw [h.erb, hlo] at c1
  obtain ⟨b, eb, x0, x1, _⟩ := h.ref.row i m hm
  obtain rfl : b = g := by rw [hlo] at eb; injection eb with eb; injection eb with eb; exact eb.symm
  obtain ⟨_, _, s, p, k1, _, k3, k4, _, _, _, k8, _⟩ := h.rl.rel.mark_at h.good (List.mem_of_getElem? (things_get hm)) rfl
  exact ⟨c1, x0, x1, (List.getElem?_eq_some_iff.1 hm).1, h.ln, by rw [k1, al.a.clsI_at k3 k4]; exact k8⟩
theorem DAt.word (h : DAt W w x al N D y i g n lc wb nw wc) {k : Nat} (hk : k < nw) : w.cell? ⟨wb, k, none⟩ = some (.int .i64 (al.a.wd (y + k))) ∧ w.frozen? ⟨wb, k, none⟩ = false := by
  obtain ⟨r, cl, l, m, h, hm, rfl, hlo, rfl, rfl, rfl, rfl, rfl⟩ := h
  obtain ⟨_, _, s, p, _, _, _, _, _, _, _, _, k9⟩ := h.rl.rel.mark_at h.good (List.mem_of_getElem? (things_get hm)) rfl
  have W0 := (h.ref.wd m (List.mem_of_getElem? hm)).1
  have hv := k9 k _ (List.getElem?_eq_getElem hk)
  refine ⟨?_, W0.f k⟩
  rw [W0.v k _ (List.getElem?_eq_getElem hk), hv]
theorem DAt.put (h : DAt W w x al N D y i g n lc wb nw wc) {k : Nat} (hk : k < nw) (v : Int) : DA W (w.setCell ⟨wb, k, none⟩ (.int .i64 v)) x ⟨al.a.writeA y k v, al.u⟩ N D ∧ Kd w (w.setCell ⟨wb, k, none⟩ (.int .i64 v)) D := by
  obtain ⟨r, cl, l, m, h, hm, hx, hlo, rfl, rfl, rfl, rfl, rfl⟩ := h
  obtain ⟨RA, rn, gr⟩ := h.ref.setWord hm hk v
  obtain ⟨H, K⟩ := h.rn RA rn gr (h.rl.write h.good hm hx hk v) (h.good.writeA y k v) (Ab.writeA_n _ _ _ _) (N' := N) (by simp [wordI]; exact h.ln)
  exact ⟨⟨_, _, _, H⟩, K⟩
end

/-! ### Maps -/
theorem da_maps (h : Hid (DA W w x al N D)) (hN : N ≤ 2000) {s : Nat} (hs : s < al.a.n) :
    Calls Tryz.prog 21 #[.pointer (some ⟨x.rb, 0, none⟩), .int .i64 (s : Int)] w fun e w' => e = .returned (.tuple #[.int .u64 (al.a.tkI s : Int), .int .u64 (al.a.mrI s : Int)]) ∧ G w w' := by
  obtain ⟨r, cl, l, A⟩ := unhide h
  have T := rmaps_core w _ r cl l s l.length (hide rfl) (by have := A.ln; omega) (hide A.ref) cl.length (hide rfl) (by rw [A.rl.len]; exact hs) (al.a.cls s) (hide (A.rl.get hs)) (hide (by
    intro m hm e
    obtain ⟨s', p, k1, k2, k3, k4, _, k6, _⟩ := A.rl.rel.isT m.t (List.mem_map.2 ⟨m, hm, rfl⟩)
    have n1 := A.good.ok.n1
    obtain ⟨_, e1, e2, _⟩ := ga_at (s := s') (p := p) k1 (by omega) k3 (A.good.ok.cr s').2 k4
    rw [← k6] at e1 e2
    obtain rfl : s' = s := by omega
    rw [e2]; omega))
  rw [A.erb] at T
  refine T.mono ?_
  rintro e w2 ⟨t, m, rfl, H, g2⟩
  obtain ⟨e1, e2⟩ := unhide H
  obtain ⟨q1, q2⟩ := maps_any A.good A.rl.rel hs
  rw [e1, e2, q1, q2]
  exact ⟨rfl, g2⟩
end
end Go.Proofs.YtinehimleldkdaaGreatDoor

/- The program's Alloc and the document's own, side by side, and whatever else the law holds. -/
namespace Go.Proofs.YtinehimleldkdaaGreatDoor
set_option maxRecDepth 100000
open Go.ChangeShapes Go.WideShapes Go.ChangeAt Go.RowKit Go.Maps

/-- The program's blocks. -/
def five (xl : Ld) : List Nat := [xl.lb, xl.ub, xl.d.ab, xl.d.wb, xl.d.sb]

section
variable {W w w' : World} {xl : Ld} {x : Rq} {al al1 al2 a1' a2' : Al} {N N' : Nat} {D E : List Nat}
theorem StL.kp (h : StL W w xl al) (k : Kd w w' D) (hD : ∀ d ∈ five xl, d ∈ D) (hb : Below W.heap.size W w') : StL W w' xl al := by
  have kl := k _ (hD xl.lb (by simp [five]))
  have ku := k _ (hD xl.ub (by simp [five]))
  have k0 := k _ (hD xl.d.ab (by simp [five]))
  have k1 := k _ (hD xl.d.wb (by simp [five]))
  have k2 := k _ (hD xl.d.sb (by simp [five]))
  exact ⟨⟨h.st.at_.kept k0 k1 k2, h.st.good, hb, h.st.tab⟩, (World.cell?_of_block (a := ⟨xl.lb, 0, none⟩) kl).trans h.c0, (World.cell?_of_block (a := ⟨xl.lb, 1, none⟩) kl).trans h.c1, fun s hs => (World.cell?_of_block (a := ⟨xl.ub, s, none⟩) ku).trans (h.us s hs),
    fun i => (World.frozen?_of_block (a := ⟨xl.ub, i, none⟩) ku).trans (h.fu i), h.b0, h.b1, h.n0, h.n1, h.n2⟩
theorem DA.tnl (h : DA W w x al N D) (t : TnL w w' xl) (hD : ∀ d ∈ five xl, d ∈ D) (hb : Below W.heap.size W w') : DA W w' x al N D := by
  obtain ⟨r, cl, l, h⟩ := h
  have off : ∀ d ∈ D, ∀ k, (k = x.lb ∨ k = x.ub ∨ k = r.rb ∨ k = r.cb ∨ (∃ a, r.lo = some a ∧ k = a.block) ∨ ∃ m, m ∈ l ∧ k = m.wb) → k ≠ d := by
    intro d hd k hk e
    subst e
    obtain ⟨_, d1, d2, d3, d4, d5, d6⟩ := h.ap _ hd
    rcases hk with e | e | e | e | ⟨a, ha, e⟩ | ⟨m, hm, e⟩
    · exact d1 e
    · exact d2 e
    · exact d3 e
    · exact d4 e
    · exact d5 a ha e
    · exact d6 m hm e
  exact ⟨r, cl, l, h.kept (fun k hk hf => t.block k hk (off _ (hD xl.d.wb (by simp [five])) k hf) (off _ (hD xl.d.sb (by simp [five])) k hf) (off _ (hD xl.ub (by simp [five])) k hf)) t.size hb⟩

/-- Both, and the blocks E beside them: none of either's. -/
structure Bo (W w : World) (xl : Ld) (x : Rq) (al1 al2 : Al) (N : Nat) (E : List Nat) : Prop where
  st : StL W w xl al1
  da : DA W w x al2 N (five xl ++ E)
  ap : ∀ e ∈ E, e ≠ xl.d.wb ∧ e ≠ xl.d.sb ∧ e ≠ xl.ub
theorem Bo.below (h : Bo W w xl x al1 al2 N E) : Below W.heap.size W w := h.st.below
theorem Bo.lt (h : Bo W w xl x al1 al2 N E) : ∀ e ∈ E, e < w.heap.size := by
  obtain ⟨r, cl, l, d⟩ := h.da
  exact fun e he => (d.ap e (List.mem_append.2 (Or.inr he))).1
/-- Behind a call of the program's. -/
theorem Bo.prog (h : Bo W w xl x al1 al2 N E) (s : StL W w' xl a1') (t : TnL w w' xl) : Bo W w' xl x a1' al2 N E ∧ Kd w w' E :=
  ⟨⟨s, h.da.tnl t (fun _ hd => List.mem_append.2 (Or.inl hd)) s.below, h.ap⟩, fun e he => t.block e (h.lt e he) (h.ap e he).1 (h.ap e he).2.1 (h.ap e he).2.2⟩
/-- Behind a call of the document's own. -/
theorem Bo.ref (h : Bo W w xl x al1 al2 N E) (s : DA W w' x a2' N' (five xl ++ E)) (k : Kd w w' (five xl ++ E)) : Bo W w' xl x al1 a2' N' E ∧ Kd w w' E :=
  ⟨⟨h.st.kp k (fun _ hd => List.mem_append.2 (Or.inl hd)) s.below, s, h.ap⟩, fun e he => k e (List.mem_append.2 (Or.inr he))⟩
theorem Bo.gr (h : Bo W w xl x al1 al2 N E) (g : G w w') : Bo W w' xl x al1 al2 N E ∧ Kd w w' E :=
  ⟨⟨h.st.G g, (h.da.gr g).1, h.ap⟩, fun e he => g.block e (h.lt e he)⟩
/-- One more block beside, that is new. -/
theorem Da.more {r : Rd} {cl : List Int} {l : List Mt} (h : Da W w x al N D r cl l) {e : Nat} (he : e < w.heap.size) (h1 : e ≠ x.lb ∧ e ≠ x.ub ∧ OffX e r l) : Da W w x al N (D ++ [e]) r cl l :=
  ⟨h.ref, h.erb, h.ecb, h.c0, h.c1, h.us, h.fu, h.b0, h.b1, h.n0, h.ol, h.ou, h.rl, h.good, h.ln, h.u0, h.below, fun d hd => by
    rcases List.mem_append.1 hd with hd | hd
    · exact h.ap d hd
    · simp at hd; subst hd; exact ⟨he, h1⟩⟩
theorem Bo.more (h : Bo W w xl x al1 al2 N E) (g : G w w') {e : Nat} (he : w.heap.size ≤ e) (he2 : e < w'.heap.size) : Bo W w' xl x al1 al2 N (E ++ [e]) := by
  obtain ⟨r, cl, l, d⟩ := h.da
  have l0 := h.st.st.at_.lt0
  have l1 := h.st.st.at_.lt1 h.st.st.n8
  have l2 := h.st.st.at_.lt2 h.st.st.n8
  have l3 := h.st.lt1
  refine ⟨h.st.G g, ⟨r, cl, l, ?_⟩, fun y hy => ?_⟩
  · have := (d.gr g).more (e := e) he2 ⟨by have := d.lt0; omega, by have := d.lt1; omega, by have := d.ref.h0; omega, by have := d.ref.h1; omega, fun a ha => by have := (d.ref.lf a ha).2.2.1; omega, fun m hm => by have := (d.ref.wd m hm).1.hi; omega⟩
    rw [List.append_assoc] at this
    exact this
  · rcases List.mem_append.1 hy with hy | hy
    · exact h.ap y hy
    · simp at hy; subst hy; exact ⟨by omega, by omega, by omega⟩
theorem Bo.sub {E' : List Nat} (h : Bo W w xl x al1 al2 N E) (hs : ∀ e ∈ E', e ∈ E) : Bo W w xl x al1 al2 N E' := by
  obtain ⟨r, cl, l, d⟩ := h.da
  refine ⟨h.st, ⟨r, cl, l, ⟨d.ref, d.erb, d.ecb, d.c0, d.c1, d.us, d.fu, d.b0, d.b1, d.n0, d.ol, d.ou, d.rl, d.good, d.ln, d.u0, d.below, fun y hy => d.ap y ?_⟩⟩, fun e he => h.ap e (hs e he)⟩
  rcases List.mem_append.1 hy with hy | hy
  · exact List.mem_append.2 (Or.inl hy)
  · exact List.mem_append.2 (Or.inr (hs y hy))

/-! ### the calls -/
theorem bp_take (h : Hid (Bo W w xl x al1 al2 N E)) (m : Int) : Calls Tryz.prog 36 #[.pointer (some ⟨xl.lb, 0, none⟩), .int .i64 m] w fun r w' => r = .returned (.tuple #[.int .i64 (al1.take m).2.1, .int .i64 (al1.take m).2.2]) ∧ Bo W w' xl x (al1.take m).1 al2 N E ∧ Kd w w' E :=
  (l_take (hide (unhide h).st) m).mono fun _ _ hh => ⟨hh.1, (unhide h).prog hh.2.1 hh.2.2⟩
theorem br_take' (h : Hid (Bo W w xl x al1 al2 N E)) (hN : N ≤ 2000) (m : Int) (hm : 0 ≤ gc m) : Calls Tryz.prog 38 #[.pointer (some ⟨x.lb, 0, none⟩), .int .i64 m] w fun r w' => r = .returned (.int .i64 (al2.take m).2.1) ∧ Bo W w' xl x al1 (al2.take m).1 (N + 1) E ∧ Kd w w' E :=
  (ra_take (hide (unhide h).da) hN m hm).mono fun _ _ hh => ⟨hh.1, (unhide h).ref hh.2.1 hh.2.2⟩
theorem bp_write (h : Hid (Bo W w xl x al1 al2 N E)) (s i v : Int) : Calls Tryz.prog 47 #[.pointer (some ⟨xl.d.ab, 0, none⟩), .int .i64 s, .int .i64 i, .int .i64 v] w fun r w' => r = .returned (.int .i64 (al1.a.readE s i)) ∧ Bo W w' xl x ⟨al1.a.writeA s i v, al1.u⟩ al2 N E ∧ Kd w w' E :=
  (ls_write (hide (unhide h).st) s i v).mono fun _ _ hh => ⟨hh.1, (unhide h).prog hh.2.1 hh.2.2⟩
theorem bp_mark (h : Hid (Bo W w xl x al1 al2 N E)) (s : Int) : Calls Tryz.prog 23 #[.pointer (some ⟨xl.d.ab, 0, none⟩), .int .i64 s] w fun r w' => r = .returned (.bool (al1.a.markB s)) ∧ Bo W w' xl x ⟨al1.a.markA s, al1.u⟩ al2 N E ∧ Kd w w' E :=
  (ls_mark (hide (unhide h).st) s).mono fun _ _ hh => ⟨hh.1, (unhide h).prog hh.2.1 hh.2.2⟩
theorem br_mark' (h : Hid (Bo W w xl x al1 al2 N E)) (hN : N ≤ 2000) (s : Int) : Calls Tryz.prog 49 #[.pointer (some ⟨x.rb, 0, none⟩), .int .i64 s] w fun r w' => r = .returned (.bool (al2.a.markB s)) ∧ Bo W w' xl x al1 ⟨al2.a.markA s, al2.u⟩ N E ∧ Kd w w' E :=
  (da_mark (hide (unhide h).da) hN s).mono fun _ _ hh => ⟨hh.1, (unhide h).ref hh.2.1 hh.2.2⟩
theorem bp_is (h : Hid (Bo W w xl x al1 al2 N E)) (s : Int) : Calls Tryz.prog 24 #[.pointer (some ⟨xl.d.ab, 0, none⟩), .int .i64 s] w fun r w' => r = .returned (.bool (al1.a.is s)) ∧ Bo W w' xl x al1 al2 N E ∧ Kd w w' E :=
  (ls_is (hide (unhide h).st) s).mono fun _ _ hh => ⟨hh.1, (unhide h).gr hh.2.2⟩
theorem bp_read (h : Hid (Bo W w xl x al1 al2 N E)) (s i : Int) : Calls Tryz.prog 74 #[.pointer (some ⟨xl.d.ab, 0, none⟩), .int .i64 s, .int .i64 i] w fun r w' => r = .returned (.tuple #[.int .i64 (al1.a.readV s i), .int .i64 (al1.a.readE s i)]) ∧ Bo W w' xl x al1 al2 N E ∧ Kd w w' E :=
  (ls_read (hide (unhide h).st) s i).mono fun _ _ hh => ⟨hh.1, (unhide h).gr hh.2.2⟩
theorem bp_cls (h : Hid (Bo W w xl x al1 al2 N E)) (s : Int) : Calls Tryz.prog 89 #[.pointer (some ⟨xl.d.ab, 0, none⟩), .int .i64 s] w fun r w' => r = .returned (.int .i64 (al1.a.clsI s)) ∧ Bo W w' xl x al1 al2 N E ∧ Kd w w' E :=
  (ls_cls (hide (unhide h).st) s).mono fun _ _ hh => ⟨hh.1, (unhide h).gr hh.2.2⟩
theorem bp_marked (h : Hid (Bo W w xl x al1 al2 N E)) (s : Int) : Calls Tryz.prog 22 #[.pointer (some ⟨xl.d.ab, 0, none⟩), .int .i64 s] w fun r w' => r = .returned (.int .u64 (al1.a.mrI s : Int)) ∧ Bo W w' xl x al1 al2 N E ∧ Kd w w' E :=
  (st_marked (hide (unhide h).st.st) s).mono fun _ _ hh => ⟨hh.1, (unhide h).gr hh.2.2⟩
theorem br_maps' (h : Hid (Bo W w xl x al1 al2 N E)) (hN : N ≤ 2000) {s : Nat} (hs : s < al2.a.n) : Calls Tryz.prog 21 #[.pointer (some ⟨x.rb, 0, none⟩), .int .i64 (s : Int)] w fun r w' => r = .returned (.tuple #[.int .u64 (al2.a.tkI s : Int), .int .u64 (al2.a.mrI s : Int)]) ∧ Bo W w' xl x al1 al2 N E ∧ Kd w w' E :=
  (da_maps (hide (unhide h).da) hN hs).mono fun _ _ hh => ⟨hh.1, (unhide h).gr hh.2⟩
end
end Go.Proofs.YtinehimleldkdaaGreatDoor
