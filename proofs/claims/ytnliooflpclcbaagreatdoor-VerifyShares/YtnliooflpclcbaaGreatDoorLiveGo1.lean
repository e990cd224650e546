/- A graph that is whole, in memory and plain. -/
import Derived.Test.YtnliooflpclcbaaGreatDoorLiveSel
import Derived.Test.YtnliooflpclcbaaGreatDoorLiveGo0
import Derived.Test.YtnliooflpclcbaaGreatDoorLiveReads2
import Derived.Test.YtnliooflpclcbaaGreatDoorLiveWrites
namespace Go.Proofs.YtnliooflpclcbaaGreatDoor
set_option maxRecDepth 100000
open Go.RowKit Go.Maps Go.ChangeShapes Go.WideShapes Go.ChangeAt Go.Deep

theorem wrap_ok (x : Int) : oI (wrap64 x) := by unfold oI wrap64; omega
theorem runP_ok (a n : Int) : ∀ s ∈ runP a n, oI s := by
  intro s hs
  unfold runP at hs
  split at hs
  · cases hs
  · unfold runN at hs
    obtain ⟨k, _, rfl⟩ := List.mem_map.1 hs
    exact wrap_ok _
theorem runP_len (a n : Int) : (runP a n).length ≤ 64 := by
  unfold runP
  split
  · simp
  · rw [runN_len]; omega
theorem one_ok {x s : Int} (hx : oI x) (hs : s ∈ [x]) : oI s := by simp at hs; rw [hs]; exact hx
theorem two_ok {x y s : Int} (hx : oI x) (hy : oI y) (hs : s ∈ [x, y]) : oI s := by
  simp at hs
  rcases hs with rfl | rfl
  · exact hx
  · exact hy
theorem three_ok {x y z s : Int} (hx : oI x) (hy : oI y) (hz : oI z) (hs : s ∈ [x, y, z]) : oI s := by
  simp at hs
  rcases hs with rfl | rfl | rfl
  · exact hx
  · exact hy
  · exact hz
theorem ite_ok {P : List Int → Prop} {c : Prop} [Decidable c] {a b : List Int} (ha : c → P a) (hb : P b) : P (if c then a else b) := by
  by_cases h : c
  · rw [if_pos h]; exact ha h
  · rw [if_neg h]; exact hb
/-- Ints, not many. -/
def Lok (l : List Int) : Prop := (∀ s ∈ l, oI s) ∧ l.length ≤ 65
theorem run_ok1 (a n : Int) : Lok (runP a n) := ⟨runP_ok _ _, by have := runP_len a n; omega⟩
theorem run_ok2 (x a n : Int) (hx : oI x) : Lok (x :: runP a n) := by
  refine ⟨fun s hs => ?_, by have := runP_len a n; simp; omega⟩
  rcases List.mem_cons.1 hs with rfl | hs
  · exact hx
  · exact runP_ok _ _ s hs
theorem rdP_ok (m : Md) (i : In) (oi : oIn i) (h41 : i.op ≠ 41) : Lok (rdP m i) := by
  obtain ⟨_, oa, ob, oc, od⟩ := oi
  unfold rdP
  exact ite_ok (fun _ => ⟨fun s hs => one_ok ob hs, by simp⟩) (ite_ok (fun _ => ⟨fun s hs => two_ok ob oc hs, by simp⟩) (ite_ok (fun _ => ⟨fun s hs => one_ok oa hs, by simp⟩) (ite_ok (fun _ => ⟨fun s hs => one_ok oc hs, by simp⟩) (ite_ok (fun _ => ⟨fun s hs => two_ok oa oc hs, by simp⟩) (ite_ok (fun _ => ⟨fun s hs => three_ok oa ob oc hs, by simp⟩) (ite_ok (fun _ => ⟨fun s hs => two_ok oa ob hs, by simp⟩)
    (ite_ok (fun _ => ⟨fun s hs => one_ok oa (List.mem_filter.1 hs).1, Nat.le_trans (List.length_filter_le _ _) (by simp)⟩) (ite_ok (fun _ => run_ok1 _ _) (ite_ok (fun _ => run_ok2 _ _ _ ob) (ite_ok (fun _ => run_ok1 _ _) (ite_ok (fun _ => run_ok2 _ _ _ oa) (ite_ok (fun _ => run_ok1 _ _) (ite_ok (fun h => absurd h h41) ⟨fun s hs => (by cases hs), by simp⟩)))))))))))))
theorem wrP_ok (i : In) (oi : oIn i) : Lok (wrP i) := by
  obtain ⟨_, oa, ob, oc, od⟩ := oi
  unfold wrP
  exact ite_ok (fun _ => ⟨fun s hs => one_ok oa hs, by simp⟩) (ite_ok (fun _ => ⟨fun s hs => one_ok oa (List.mem_filter.1 hs).1, Nat.le_trans (List.length_filter_le _ _) (by simp)⟩) (ite_ok (fun _ => ⟨fun s hs => two_ok oa oc (List.mem_filter.1 hs).1, Nat.le_trans (List.length_filter_le _ _) (by simp)⟩) ⟨fun s hs => (by cases hs), by simp⟩))
theorem plP_len (n : Nat) (l : List Int) : (plP n l).length ≤ l.length := by
  rw [← places_eq]
  refine Nat.le_trans (comp_len _) ?_
  rw [srtL_len]
  exact List.length_filter_le _ _
theorem flP_len (m : Md) (f : Fn) (pc : Nat) (i : In) (h : f.is[pc]? = some i) (h41 : i.op ≠ 41) : (flP m f (pc : Int)).length ≤ 2 := by
  unfold flP
  rw [if_neg (by omega), Int.toNat_natCast, h]
  refine Nat.le_trans (plP_len _ _) ?_
  have key : (fun l : List Int => l.length ≤ 2) (folT m i (pc : Int)) := by
    unfold folT
    exact ite_ok (P := fun l : List Int => l.length ≤ 2) (fun _ => by simp) (ite_ok (P := fun l : List Int => l.length ≤ 2) (fun _ => by simp) (ite_ok (P := fun l : List Int => l.length ≤ 2) (fun _ => by simp) (ite_ok (P := fun l : List Int => l.length ≤ 2) (fun _ => by simp) (ite_ok (P := fun l : List Int => l.length ≤ 2) (fun h => absurd h h41) (by simp)))))
  exact key
/-- What each node is bounded by. -/
def NdOK (N : Nat) (n : Nd) : Prop := n.1 < 18446744073709551616 ∧ n.2.1 < 18446744073709551616 ∧ n.2.2.length ≤ 2 ∧ ∀ q ∈ n.2.2, 0 ≤ q ∧ q < (N : Int)
theorem gok_nodes {m : Md} {f : Fn} {ns : List Nd} {l : List Sc} (h : GOK m f ns l) (k : Nat) (n : Nd) (hn : ns[k]? = some n) : NdOK ns.length n := by
  have hlen := h.st.len
  have hk : k < ns.length := (List.getElem?_eq_some_iff.1 hn).1
  by_cases hkf : k < f.is.length
  · obtain ⟨i, hi⟩ : ∃ i, f.is[k]? = some i := ⟨f.is[k], List.getElem?_eq_getElem _⟩
    obtain ⟨n', hn', hin⟩ := h.ins k i hi
    rw [hn] at hn'
    cases hn'
    rcases hin with ⟨_, ⟨_, rfl⟩ | ⟨a, d, q, d1, d2, he, hq, rfl⟩⟩ | ⟨hne, rfl⟩
    · exact ⟨by show (0 : Nat) < _; decide, by show allU < _; decide, by simp, fun q hq => by simp at hq⟩
    · have hql := (List.getElem?_eq_some_iff.1 hq).1
      exact ⟨by show (0 : Nat) < _; decide, by show allU < _; decide, by simp, fun x hx => by simp at hx; omega⟩
    · exact ⟨msk_lt _, notU_lt _, flP_len m f k i hi hne, fun q (hq : q ∈ flP m f (k : Int)) => by have := flP_lt m f _ _ hq; omega⟩
  · obtain ⟨s, hs⟩ : ∃ s, l[k - f.is.length]? = some s := ⟨l[k - f.is.length]'(by omega), List.getElem?_eq_getElem _⟩
    obtain ⟨n', hn', g1, g2, hnd⟩ := h.st.nd _ s hs
    rw [show f.is.length + (k - f.is.length) = k by omega, hn] at hn'
    cases hn'
    rcases hnd with ⟨e1, c', hc', rfl⟩ | ⟨e2, p, q1, q2, a1, a2, a3, a4, a5, a6, rfl⟩
    · refine ⟨msk_lt _, ?_, Nat.le_trans (plP_len _ _) (by simp), fun q hq => by have := (plP_mem _ _ _).1 hq; omega⟩
      show kpC c' < _
      unfold kpC
      split
      · exact notU_lt _
      · decide
    · exact ⟨by show (0 : Nat) < _; decide, by show allU < _; decide, by simp, fun x hx => by simp at hx; omega⟩
theorem tot_le (nx : Nat → List Int) : ∀ n, (∀ k, k < n → (nx k).length ≤ 2) → totN nx n ≤ 2 * n
  | 0, _ => Nat.le_refl _
  | n + 1, h => by
    have h1 := tot_le nx n (fun k hk => h k (by omega))
    have h2 := h n (by omega)
    show totN nx n + (nx n).length ≤ 2 * (n + 1)
    omega
theorem gr_of {w : World} {B gB mb rb cap n0 : Nat} {hd : List Value} {ns : List Nd} {l : List Sc} {E : List Nat} (h : GX w B gB mb rb cap n0 hd ns l E) (hb : ∀ (k : Nat) (n : Nd), ns[k]? = some n → NdOK ns.length n) :
    Gr w gB rb ns.length (fun k => (ndAt ns k).2.2) (fun k => (ndAt ns k).2.1) (fun k => (ndAt ns k).1) := by
  obtain ⟨xs, o, hx⟩ := h.row
  have get : ∀ k, k < ns.length → ∃ n, ns[k]? = some n ∧ ndAt ns k = n := fun k hk => ⟨ns[k], List.getElem?_eq_getElem hk, ndAt_eq (List.getElem?_eq_getElem hk)⟩
  refine ⟨⟨cap, h.cells.1⟩, h.n2, h.rl.2, fun k hk => ⟨?_, o.frozenAt _⟩, fun k hk => ?_, fun k hk => ?_, fun k hk => ?_⟩
  · obtain ⟨n, hn, e⟩ := get k hk
    obtain ⟨v, x0, _⟩ := hx k n hn
    rw [o.cellAt (k * 3) (by omega), x0, e]
  · obtain ⟨n, hn, e⟩ := get k hk
    obtain ⟨v, _, x1, _⟩ := hx k n hn
    rw [o.cellAt (k * 3 + 1) (by omega), x1, e]
  · obtain ⟨n, hn, e⟩ := get k hk
    obtain ⟨v, _, _, x2, hz⟩ := hx k n hn
    refine ⟨v, by rw [o.cellAt (k * 3 + 2) (by omega)]; exact x2, fun w' kx => ?_⟩
    rw [e]
    exact hz w' ⟨kx.2, fun b b1 b2 => kx.1 b (Nat.zero_le _) b1 (fun e => b2 (Or.inr (Or.inr (Or.inl e)))) (by simp)⟩
  · obtain ⟨n, hn, e⟩ := get k hk
    obtain ⟨h1, h2, h3, h4⟩ := hb k n hn
    rw [e]
    exact ⟨h1, h2, by omega, h4⟩
/-- What graphOf answers. -/
def GoTo (w : World) (m : Md) (f : Fn) (e : Ending) (w' : World) : Prop :=
  ∃ gB nb ns l, e = .returned (.pointer (some ⟨gB, 0, none⟩)) ∧ G w w' ∧ w.heap.size ≤ gB ∧ w.heap.size ≤ nb ∧ GOK m f ns l ∧ Gr w' gB nb ns.length (fun k => (ndAt ns k).2.2) (fun k => (ndAt ns k).2.1) (fun k => (ndAt ns k).1) ∧ ns.length ≤ 100000 ∧ totN (fun k => (ndAt ns k).2.2) ns.length ≤ 200000
/-- What is known while graphOf goes on. -/
structure LpI (W0 wr : World) (gB mb rb cap n0 : Nat) (hd : List Value) (m : Md) (f : Fn) (ns : List Nd) (l : List Sc) (k : Nat) : Prop where
  gx : GX wr W0.heap.size gB mb rb cap n0 hd ns l []
  g : G W0 wr
  ok : StOK m n0 ns l
  ins : ∀ (j : Nat) (i : In), j < k → f.is[j]? = some i → ∃ n, ns[j]? = some n ∧ InsNd m f l j i n
  ln : l.length ≤ k * (4 * m.ca.length)
/-- .. where the new node is ready. -/
structure LpN (W0 wx : World) (gB mb rb cap n0 : Nat) (hd : List Value) (m : Md) (f : Fn) (ns : List Nd) (l : List Sc) (k : Nat) (i : In) (iB nB : Nat) (xo : Option Addr) (xn xc : Nat) (n : Nd) : Prop where
  gx : GX wx W0.heap.size gB mb rb cap n0 hd ns l [iB, nB]
  g : G W0 wx
  ok : StOK m n0 ns l
  ins : ∀ (j : Nat) (i : In), j < k → f.is[j]? = some i → ∃ n, ns[j]? = some n ∧ InsNd m f l j i n
  ln : l.length ≤ (k + 1) * (4 * m.ca.length)
  z : IsZ (Pz gB mb rb [iB, nB]) wx (.slice xo xn xc) n.2.2
  nd : InsNd m f l k i n
  c0 : wx.cell? ⟨nB, 0, none⟩ = some (.int .u64 (n.1 : Int))
  c1 : wx.cell? ⟨nB, 1, none⟩ = some (.int .u64 (n.2.1 : Int))
  c2 : wx.cell? ⟨nB, 2, none⟩ = some (.slice xo xn xc)
  nb : nB ≠ rb
  ng : nB ≠ gB
theorem InsNd.more {m : Md} {f : Fn} {l : List Sc} {pc : Nat} {i : In} {n : Nd} (h : InsNd m f l pc i n) (x : List Sc) : InsNd m f (l ++ x) pc i n := by
  rcases h with ⟨h1, h2 | ⟨a, c, q, a1, a2, a3, a4, a5⟩⟩ | h
  · exact Or.inl ⟨h1, Or.inl h2⟩
  · exact Or.inl ⟨h1, Or.inr ⟨a, c, q, a1, a2, a3, get_more a4, a5⟩⟩
  · exact Or.inr h
theorem ins_more {m : Md} {f : Fn} {ns ns' : List Nd} {l l' : List Sc} {k c : Nat} (h : ∀ (j : Nat) (i : In), j < k → f.is[j]? = some i → ∃ n, ns[j]? = some n ∧ InsNd m f l j i n) (hm : StMore c ns l ns' l') : ∀ (j : Nat) (i : In), j < k → f.is[j]? = some i → ∃ n, ns'[j]? = some n ∧ InsNd m f l' j i n := by
  obtain ⟨a, b, rfl, rfl, _⟩ := hm
  intro j i hj hi
  obtain ⟨n, h1, h2⟩ := h j i hj hi
  exact ⟨n, get_more h1, h2.more _⟩
/-- The node is written. -/
theorem LpN.put {W0 wx : World} {gB mb rb cap n0 : Nat} {hd : List Value} {m : Md} {f : Fn} {ns : List Nd} {l : List Sc} {k : Nat} {i : In} {iB nB : Nat} {xo : Option Addr} {xn xc : Nat} {n : Nd} (h : LpN W0 wx gB mb rb cap n0 hd m f ns l k i iB nB xo xn xc n) (hk : k < n0) (hi : f.is[k]? = some i) {y : World} (g : G wx y) :
    LpI W0 (setN y rb (k * 3) [.int .u64 (n.1 : Int), .int .u64 (n.2.1 : Int), .slice xo xn xc]) gB mb rb cap n0 hd m f (ns.set k n) l (k + 1) := by
  have hlen := h.ok.len
  obtain ⟨G2, T2⟩ := (h.gx.g g).put k (by omega) n.1 n.2.1 (.slice xo xn xc) n.2.2 (h.z.move g.size (fun b b1 b2 => ⟨g.block b b1, b2⟩))
  refine ⟨G2.less (fun b hb => by cases hb), T2.G (h.g.trans g) h.gx.b1 h.gx.b2 h.gx.rl.1, ⟨by rw [List.length_set]; exact hlen, fun q s hq => ?_⟩, fun j i' hj hi' => ?_, h.ln⟩
  · obtain ⟨x, h1, h2⟩ := h.ok.nd q s hq
    exact ⟨x, by rw [List.getElem?_set_ne (by omega)]; exact h1, h2⟩
  · by_cases e : j = k
    · subst e
      rw [hi] at hi'
      cases hi'
      exact ⟨n, by rw [List.getElem?_set_self (by omega)], h.nd⟩
    · obtain ⟨x, h1, h2⟩ := h.ins j i' (by omega) hi'
      exact ⟨x, by rw [List.getElem?_set_ne (by omega)]; exact h1, h2⟩
end Go.Proofs.YtnliooflpclcbaaGreatDoor
