/- The tree of a module's cases: its leaves, its nodes, which nodes a select has. -/
import Derived.Test.YtiangegoglfpeaaDoorFrKn
import Derived.Test.YtiangegoglfpeaaDoorLiveFC
namespace Go.Proofs.YtiangegoglfpeaaDoor
set_option maxRecDepth 100000
open Go.RowKit Go.Maps Go.ChangeShapes Go.WideShapes Go.ChangeAt Go.Deep

/-- Nodes that stand for the leaves from lo to hi. -/
def covL : Nat → Nat → Nat → List Int → List Int
  | 0, _, _, acc => acc
  | f + 1, lo, hi, acc => if lo < hi then covL f ((lo + 1) / 2) (hi / 2) ((if lo % 2 = 1 then acc ++ [(lo : Int)] else acc) ++ (if hi % 2 = 1 then [((hi - 1 : Nat) : Int)] else [])) else acc
def covP (n : Nat) (a b : Int) : List Int := if a < 0 ∨ b < 0 ∨ (n : Int) - a < b then [] else covL (2 * n + 1) (n + a.toNat) (n + a.toNat + b.toNat) []
theorem cov_mem : ∀ (f lo hi : Nat) (acc : List Int) (m : Nat), hi ≤ m → (∀ x ∈ acc, 0 ≤ x ∧ x < (m : Int)) → ∀ x ∈ covL f lo hi acc, 0 ≤ x ∧ x < (m : Int)
  | 0, _, _, _, _, _, h => h
  | f + 1, lo, hi, acc, m, hm, h => by
    unfold covL
    split
    · rename_i hlt
      refine cov_mem f _ _ _ m (by omega) (fun x hx => ?_)
      rcases List.mem_append.1 hx with hx | hx
      · split at hx
        · rcases List.mem_append.1 hx with hx | hx
          · exact h x hx
          · simp at hx; omega
        · exact h x hx
      · split at hx
        · simp at hx; omega
        · simp at hx
    · exact h
theorem covP_mem (n : Nat) (a b : Int) : ∀ x ∈ covP n a b, 0 ≤ x ∧ x < ((2 * n : Nat) : Int) := by
  unfold covP
  split
  · intro x hx; simp at hx
  · exact cov_mem _ _ _ _ (2 * n) (by omega) (fun x hx => by simp at hx)
theorem cov_len : ∀ (f lo hi : Nat) (acc : List Int), (covL f lo hi acc).length ≤ acc.length + 2 * f
  | 0, _, _, _ => by simp [covL]
  | f + 1, lo, hi, acc => by
    unfold covL
    split
    · have := cov_len f ((lo + 1) / 2) (hi / 2) ((if lo % 2 = 1 then acc ++ [(lo : Int)] else acc) ++ (if hi % 2 = 1 then [((hi - 1 : Nat) : Int)] else []))
      have h2 : ((if lo % 2 = 1 then acc ++ [(lo : Int)] else acc) ++ (if hi % 2 = 1 then [((hi - 1 : Nat) : Int)] else [])).length ≤ acc.length + 2 := by
        rw [List.length_append]
        split <;> split <;> simp
      omega
    · omega
abbrev agT (n : Nat) (ao : Option Addr) (ac : Nat) (sb : Option Addr) (s1 s2 : Nat) (rb : Option Addr) (r1 r2 : Nat) : Value := .agg #[.slice ao n ac, .slice sb s1 s2, .slice rb r1 r2]
theorem below_g {w x y : World} (h : G w x) (b : Below w.heap.size x y) : G w y := ⟨b.os.trans h.os, b.tape.trans h.tape, b.output.trans h.output, Nat.le_trans h.size b.size, fun k hk => (b.block k hk).trans (h.block k hk)⟩
variable (w : World) (n : Nat) (ao : Option Addr) (ac : Nat) (sb : Option Addr) (s1 s2 : Nat) (rb : Option Addr) (r1 r2 : Nat)
theorem isLeaf_any (k : Int) : Calls Tryd.prog 67 #[agT n ao ac sb s1 s2 rb r1 r2, .int .i64 k] w fun e w' => e = .returned (.bool (decide ((n : Int) ≤ k))) ∧ G w w' := by
  unfold agT
  go_enter Tryd.func67, Tryd.ntmps67
  go_wp2_with fail
  go_ret
  exact ⟨rfl, (G.refl w).more _⟩
theorem nodes_any (hn : n ≤ 1000000) : Calls Tryd.prog 33 #[agT n ao ac sb s1 s2 rb r1 r2] w fun e w' => e = .returned (.int .i64 ((2 * n : Nat) : Int)) ∧ G w w' := by
  unfold agT
  have hw : wrap64 (2 * (n : Int)) = ((2 * n : Nat) : Int) := by unfold wrap64; omega
  go_enter Tryd.func33, Tryd.ntmps33
  go_wp2_with fail
  go_ret
  exact ⟨rfl, (G.refl w).more _⟩
theorem children_any (k : Nat) (hk : k ≤ 1000000) : Calls Tryd.prog 68 #[agT n ao ac sb s1 s2 rb r1 r2, .int .i64 (k : Int)] w (LTo w [2 * (k : Int), 2 * (k : Int) + 1]) := by
  unfold agT
  have hw : wrap64 (2 * (k : Int)) = 2 * (k : Int) := by unfold wrap64; omega
  have hw2 : wrap64 (2 * (k : Int) + 1) = 2 * (k : Int) + 1 := by unfold wrap64; omega
  have K : Hid (∀ (x : World) (a : Nat), G w x → a = x.heap.size → LTo w [2 * (k : Int), 2 * (k : Int) + 1] (.returned (.slice (some ⟨a, 0, none⟩) 2 2)) (x.alloc (.cells #[.int .i64 (2 * (k : Int)), .int .i64 (2 * (k : Int) + 1)] 3))) := hide fun x a g e => by
    subst e
    exact ⟨_, rfl, isl_new x [2 * (k : Int), 2 * (k : Int) + 1] (by show 2 ≤ maxLen; decide), g.more _⟩
  go_enter Tryd.func68, Tryd.ntmps68
  go_wp2_with fail
  refine bodyPost_ret (by simp [results, Tryd.results68, go_sem]; try rfl) rfl ?_
  exact unhide K _ _ ((G.refl w).more _) (by rw [World.size_alloc])
set_option maxHeartbeats 1000000 in
theorem caseOf_any (l : List Ca) (hr : RowAt elCa w ao n ac l) (k : Nat) (c : Ca) (hc : l[k]? = some c) (hn : n ≤ 1000000) : Calls Tryd.prog 69 #[agT n ao ac sb s1 s2 rb r1 r2, .int .i64 ((n + k : Nat) : Int)] w fun e w' => e = .returned (.agg #[.int .i64 c.k, .int .i64 c.c, .int .i64 c.v, .int .i64 c.t]) ∧ G w w' := by
  unfold agT
  have hk : k < n := by rw [← hr.1]; exact (List.getElem?_eq_some_iff.1 hc).1
  obtain ⟨b, off, c', cs, e, hc', ecs, hcs⟩ := row_get hr hk
  rw [hc] at hc'
  cases hc'
  have ecs : cs = [.int .i64 c.k, .int .i64 c.c, .int .i64 c.v, .int .i64 c.t] := ecs
  subst ecs
  subst e
  have hx : ∀ x, G w x → x.cell? ⟨b, off + k * 4, none⟩ = some (.int .i64 c.k) ∧ x.cell? ⟨b, off + k * 4 + 1, none⟩ = some (.int .i64 c.c) ∧ x.cell? ⟨b, off + k * 4 + 2, none⟩ = some (.int .i64 c.v) ∧ x.cell? ⟨b, off + k * 4 + 3, none⟩ = some (.int .i64 c.t) := fun x g => ⟨hcs x g 0 _ rfl, hcs x g 1 _ rfl, hcs x g 2 _ rfl, hcs x g 3 _ rfl⟩
  have h1 : ∀ o1 o2, ((w.alloc o1).alloc o2).cell? ⟨b, off + k * 4, none⟩ = some (.int .i64 c.k) := fun o1 o2 => (hx _ (((G.refl w).more _).more _)).1
  have h2 : ∀ o1 o2, ((w.alloc o1).alloc o2).cell? ⟨b, off + k * 4 + 1, none⟩ = some (.int .i64 c.c) := fun o1 o2 => (hx _ (((G.refl w).more _).more _)).2.1
  have h3 : ∀ o1 o2, ((w.alloc o1).alloc o2).cell? ⟨b, off + k * 4 + 2, none⟩ = some (.int .i64 c.v) := fun o1 o2 => (hx _ (((G.refl w).more _).more _)).2.2.1
  have h4 : ∀ o1 o2, ((w.alloc o1).alloc o2).cell? ⟨b, off + k * 4 + 3, none⟩ = some (.int .i64 c.t) := fun o1 o2 => (hx _ (((G.refl w).more _).more _)).2.2.2
  have hw : wrap64 (((n + k : Nat) : Int) - (n : Int)) = (k : Int) := by unfold wrap64; omega
  have hkI : (k : Int) < (n : Int) := by omega
  generalize ((n + k : Nat) : Int) = nk at hw ⊢
  clear hx hcs hr hc
  go_enter Tryd.func69, Tryd.ntmps69
  go_wp2_with fail
  go_returns
  exact ⟨rfl, ((G.refl w).more _).more _⟩
end Go.Proofs.YtiangegoglfpeaaDoor
