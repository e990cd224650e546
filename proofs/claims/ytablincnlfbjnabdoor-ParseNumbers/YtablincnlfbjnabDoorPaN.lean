/- The program's parser: trees in memory; rows of nodes that a call owns. -/
import Derived.Test.YtablincnlfbjnabDoorPaL
import Derived.Maps.AppendAt
namespace Go.Proofs.YtablincnlfbjnabDoor
set_option maxRecDepth 100000
open Go.RowKit Go.Maps Go.ChangeShapes Go.WideShapes Go.ChangeAt Go.Deep

abbrev tyN : Nat := 27
abbrev tyNs : Nat := 25
def ndT (k x : List UInt8) (a : Int) (kv : Value) : Array Value := #[.string ⟨k.toArray⟩, .string ⟨x.toArray⟩, .int .i64 a, kv]
/-- Kids in memory, in blocks of which S holds. -/
inductive RAt (w : World) (S : Nat → Prop) : List Tt → Value → Prop where
  | nil (ao : Option Addr) (c : Nat) : RAt w S [] (.slice ao 0 c)
  | row (ts : List Tt) (g off c : Nat) (kv : Nat → Value) (hg : g < w.heap.size) (hS : S g) (hc : ∀ (j : Nat) (t : Tt), ts[j]? = some t → ∀ i u, (ndT t.k t.x t.a (kv j))[i]? = some u → w.cell? ⟨g, off + j * 4 + i, none⟩ = some u) (hr : ∀ (j : Nat) (t : Tt), ts[j]? = some t → RAt w S t.ks (kv j)) : RAt w S ts (.slice (some ⟨g, off, none⟩) ts.length c)
theorem RAt.keep {w w' : World} {S S' : Nat → Prop} (hs : w.heap.size ≤ w'.heap.size) (h : ∀ g, g < w.heap.size → S g → w'.heap[g]? = w.heap[g]? ∧ S' g) {ts : List Tt} {v : Value} (r : RAt w S ts v) : RAt w' S' ts v := by
  induction r with
  | nil ao c => exact .nil ao c
  | row ts g off c kv hg hS hc hr ih => exact .row ts g off c kv (Nat.lt_of_lt_of_le hg hs) (h g hg hS).2 (fun j t ht i u hu => (World.cell?_of_block (a := ⟨g, off + j * 4 + i, none⟩) (h g hg hS).1).trans (hc j t ht i u hu)) (fun j t ht => ih j t ht)
theorem RAt.sl {w : World} {S : Nat → Prop} {ts : List Tt} {v : Value} (r : RAt w S ts v) : ∃ ao c, v = .slice ao ts.length c := by
  cases r with
  | nil ao c => exact ⟨ao, c, rfl⟩
  | row ts g off c kv hg hS hc hr => exact ⟨_, c, rfl⟩
/-- A node's value, whose kids lie there. -/
def NdE (w : World) (S : Nat → Prop) (u : Value) (t : Tt) : Prop := ∃ kv, u = .agg (ndT t.k t.x t.a kv) ∧ RAt w S t.ks kv
theorem NdE.keep {w w' : World} {S S' : Nat → Prop} {u : Value} {t : Tt} (hs : w.heap.size ≤ w'.heap.size) (h : ∀ g, g < w.heap.size → S g → w'.heap[g]? = w.heap[g]? ∧ S' g) (r : NdE w S u t) : NdE w' S' u t := by
  obtain ⟨kv, e, r⟩ := r
  exact ⟨kv, e, r.keep hs h⟩
def ncs : Value → List Value
  | .agg a => a.toList
  | _ => []
theorem NdE.ncs4 {w : World} {S : Nat → Prop} {u : Value} {t : Tt} (h : NdE w S u t) : (ncs u).length = 4 := by
  obtain ⟨kv, rfl, _⟩ := h
  rfl
theorem NdE.ones {w : World} {S : Nat → Prop} {u : Value} {t : Tt} (h : NdE w S u t) : ∀ x ∈ ncs u, x.oneCell' = true := by
  obtain ⟨kv, rfl, r⟩ := h
  obtain ⟨ao, c, rfl⟩ := r.sl
  intro x hx
  simp [ncs, ndT] at hx
  rcases hx with rfl | rfl | rfl | rfl <;> rfl
theorem flat4 : ∀ ns : List Value, (∀ u ∈ ns, (ncs u).length = 4) → ∀ (j i : Nat) (u x : Value), ns[j]? = some u → (ncs u)[i]? = some x → (ns.flatMap ncs)[j * 4 + i]? = some x := fun ns => by
  induction ns with
  | nil => intro _ j i u x hj _; simp at hj
  | cons a r ih =>
    intro h4 j i u x hj hi
    rw [List.flatMap_cons]
    have ha := h4 a (List.mem_cons_self ..)
    match j, hj with
    | 0, hj =>
      cases hj
      have : i < (ncs a).length := by
        rcases Nat.lt_or_ge i (ncs a).length with h | h
        · exact h
        · rw [List.getElem?_eq_none h] at hi; cases hi
      rw [Nat.zero_mul, Nat.zero_add, List.getElem?_append_left this]
      exact hi
    | j + 1, hj =>
      rw [List.getElem?_append_right (by rw [ha]; omega), ha, show (j + 1) * 4 + i - 4 = j * 4 + i by omega]
      exact ih (fun u hu => h4 u (List.mem_cons_of_mem _ hu)) j i u x hj hi
theorem own_lt {w : World} {B ty sz : Nat} {v : Value} {n : Nat} {xs : List Value} (h : w.ownsRow B ty sz v n xs) : ∀ q, v.ownBlock = some q → q < w.heap.size := by
  intro q hq
  rcases h.2 with ⟨rfl, _⟩ | ⟨g, cap, cur, rfl, h2, h3, _⟩
  · cases hq
  · cases hq
    show g < w.heap.size
    rcases Nat.lt_or_ge g w.heap.size with hh | hh
    · exact hh
    · rw [Array.getElem?_eq_none hh] at h3; cases h3
theorem get_some {α : Type} {l : List α} {j : Nat} {m : Nat} (h : l.length = m) (hj : j < m) : ∃ u, l[j]? = some u := ⟨l[j]'(by omega), List.getElem?_eq_getElem (by omega)⟩
theorem lt_of_get {α : Type} {l : List α} {j : Nat} {u : α} (h : l[j]? = some u) : j < l.length := by
  rcases Nat.lt_or_ge j l.length with h' | h'
  · exact h'
  · rw [List.getElem?_eq_none h'] at h; cases h
theorem nd_all4 {w : World} {S : Nat → Prop} {ns : List Value} {ts : List Tt} (h1 : ns.length = ts.length) (h3 : ∀ (j : Nat) (u : Value) (t : Tt), ns[j]? = some u → ts[j]? = some t → NdE w S u t) : ∀ u ∈ ns, ∃ t, NdE w S u t := fun u hu => by
  obtain ⟨j, hj⟩ := List.getElem?_of_mem hu
  obtain ⟨t, ht⟩ := get_some h1.symm (lt_of_get hj)
  exact ⟨t, h3 j u t hj ht⟩
theorem own_keep1 {w w' : World} {B ty sz : Nat} {v : Value} {n : Nat} {xs : List Value} (h : w.ownsRow B ty sz v n xs) (e : ∀ q, v.ownBlock = some q → w'.heap[q]? = w.heap[q]?) : w'.ownsRow B ty sz v n xs := by
  refine ⟨h.1, ?_⟩
  rcases h.2 with h0 | ⟨g, cap, cur, h1, h2, h3, h4⟩
  · exact Or.inl h0
  · exact Or.inr ⟨g, cap, cur, h1, h2, (e g (by rw [h1]; rfl)).trans h3, h4⟩
theorem ownsRow_zero {w : World} {B ty sz : Nat} {v : Value} {n : Nat} {xs : List Value} (h : w.ownsRow B ty sz v n xs) : w.ownsRow 0 ty sz v n xs := by
  refine ⟨h.1, ?_⟩
  rcases h.2 with h0 | ⟨g, cap, cur, h1, h2, h3⟩
  · exact Or.inl h0
  · exact Or.inr ⟨g, cap, cur, h1, Nat.zero_le _, h3⟩
/-- A row of nodes of the call's own, the trees ts: all of it in blocks of which S holds. -/
def OwA (w : World) (S : Nat → Prop) (kv : Value) (ts : List Tt) : Prop := ∃ ns : List Value, ns.length = ts.length ∧ w.ownsRow 0 27 4 kv ns.length (ns.flatMap ncs) ∧ (∀ q, kv.ownBlock = some q → S q) ∧ ∀ (j : Nat) (u : Value) (t : Tt), ns[j]? = some u → ts[j]? = some t → NdE w (fun g => S g ∧ kv.ownBlock ≠ some g) u t
/-- .. in blocks from B on. -/
abbrev OwK (w : World) (B : Nat) (kv : Value) (ts : List Tt) : Prop := OwA w (fun g => B ≤ g) kv ts
section
variable {w w' : World} {S S' : Nat → Prop} {B : Nat} {v v2 kv : Value} {ts ts2 : List Tt} {t : Tt}
theorem OwA.lt (h : OwA w S kv ts) : ∀ q, kv.ownBlock = some q → S q ∧ q < w.heap.size := by
  obtain ⟨ns, _, h2, h3, _⟩ := h
  exact fun q hq => ⟨h3 q hq, own_lt h2 q hq⟩
theorem OwA.nil (w : World) (S : Nat → Prop) : OwA w S (.slice none 0 0) [] := ⟨[], rfl, ⟨rfl, Or.inl ⟨rfl, rfl⟩⟩, (fun q h => by cases h), fun j u t h => by simp at h⟩
theorem OwK.nil (w : World) (B : Nat) : OwK w B (.slice none 0 0) [] := OwA.nil w _
theorem OwA.sl (h : OwA w S kv ts) : ∃ ao c, kv = .slice ao ts.length c := by
  obtain ⟨ns, h1, h2, _⟩ := h
  rw [← h1]
  rcases h2.2 with ⟨e, e2⟩ | ⟨g, cap, _, e, _⟩
  · exact ⟨_, _, e2 ▸ e⟩
  · exact ⟨_, _, e⟩
/-- .. is a row of kids. -/
theorem OwA.row (h : OwA w S kv ts) : RAt w S ts kv := by
  have hlt := h.lt
  obtain ⟨ns, h1, h2, hS, h3⟩ := h
  have h4 : ∀ u ∈ ns, (ncs u).length = 4 := fun u hu => by obtain ⟨t, ht⟩ := nd_all4 h1 h3 u hu; exact ht.ncs4
  obtain ⟨q1, q2⟩ := h2
  rcases q2 with ⟨rfl, hn⟩ | ⟨g, cap, cur, rfl, q3, q4, q5, q6, q7, q8⟩
  · rw [h1] at hn
    rw [List.length_eq_zero_iff.1 hn]
    exact .nil _ _
  · have hk : ∀ j : Nat, ∃ v : Value, ∀ t : Tt, ts[j]? = some t → ns[j]? = some (Value.agg (ndT t.k t.x t.a v)) ∧ RAt w (fun q => S q ∧ (Value.slice (some ⟨g, 0, none⟩) ns.length cap).ownBlock ≠ some q) t.ks v := fun j => by
      by_cases hj : j < ts.length
      · obtain ⟨t, ht⟩ := get_some rfl hj
        obtain ⟨u, hu⟩ := get_some h1 hj
        obtain ⟨v, e, r⟩ := h3 j u t hu ht
        refine ⟨v, fun t' ht' => ?_⟩
        rw [ht] at ht'
        cases ht'
        exact ⟨by rw [hu, e], r⟩
      · exact ⟨undef, fun t ht => absurd (lt_of_get ht) hj⟩
    rw [h1]
    refine RAt.row ts g 0 cap (fun j => (hk j).choose) (hlt g rfl).2 (hlt g rfl).1 (fun j t ht i u hu => ?_) (fun j t ht => ((hk j).choose_spec t ht).2.keep (Nat.le_refl _) (fun q _ hs => ⟨rfl, hs.1⟩))
    have q := ((hk j).choose_spec t ht).1
    have hi : (ncs (.agg (ndT t.k t.x t.a (hk j).choose)))[i]? = some u := by
      show (ndT t.k t.x t.a (hk j).choose).toList[i]? = some u
      rw [Array.getElem?_toList]; exact hu
    have q2 := flat4 ns h4 j i _ u q hi
    rw [Nat.zero_add, cell_of_row w g _ cur _ (0, 0) q4]
    rw [← q8, List.getElem?_take] at q2
    split at q2
    · rw [← Array.getElem?_toList]; exact q2
    · cases q2
theorem OwA.keep (h : OwA w S kv ts) (hs : w.heap.size ≤ w'.heap.size) (e : ∀ b, S b → b < w.heap.size → w'.heap[b]? = w.heap[b]?) : OwA w' S kv ts := by
  have hlt := h.lt
  obtain ⟨ns, h1, h2, hS, h3⟩ := h
  exact ⟨ns, h1, own_keep1 h2 (fun q hq => e q (hlt q hq).1 (hlt q hq).2), hS, fun j u t hu ht => (h3 j u t hu ht).keep hs (fun g hg q => ⟨e g q.1 hg, q⟩)⟩
theorem OwA.monoS (h : OwA w S kv ts) (hi : ∀ q, q < w.heap.size → S q → S' q) : OwA w S' kv ts := by
  have hlt := h.lt
  obtain ⟨ns, h1, h2, hS, h3⟩ := h
  exact ⟨ns, h1, h2, fun q hq => hi q (hlt q hq).2 (hS q hq), fun j u t hu ht => (h3 j u t hu ht).keep (Nat.le_refl _) (fun g hg q => ⟨rfl, hi g hg q.1, q.2⟩)⟩
/-- .. whose blocks were there already. -/
theorem OwA.monoG (h0 : OwA w S kv ts) (hi : ∀ q, q < w.heap.size → S q → S' q) (g : G w w') : OwA w' S' kv ts := (h0.monoS hi).keep g.size (fun b _ hb => g.block b hb)
theorem OwA.g (h : OwA w S kv ts) (g : G w w') : OwA w' S kv ts := h.keep g.size (fun b _ hb => g.block b hb)
theorem OwA.gs (h : OwA w S kv ts) (g : Gs S' w w') (hd : ∀ q, S q → ¬ S' q) : OwA w' S kv ts := h.keep g.size (fun b hb1 hb2 => g.block b hb2 (hd b hb1))
theorem OwA.gt {rb : Nat} (h : OwK w B kv ts) (hb : rb < B) (g : Gt rb w w') : OwK w' B kv ts := h.gs g (fun q (hq : B ≤ q) => by show ¬ q = rb; omega)
theorem OwA.mono {B' : Nat} (h : OwK w B kv ts) (hb : B' ≤ B) : OwK w B' kv ts := h.monoS (fun q _ (hq : B ≤ q) => by show B' ≤ q; omega)
/-- A literal row of one node. -/
theorem OwA.litS (hS : S w.heap.size) (h : OwA w S kv t.ks) : OwA (w.alloc (.cells (ndT t.k t.x t.a kv) 27)) S (.slice (some ⟨w.heap.size, 0, none⟩) 1 1) [t] := by
  have ga := G.alloc w (.cells (ndT t.k t.x t.a kv) 27)
  refine ⟨[.agg (ndT t.k t.x t.a kv)], rfl, ?_, fun q hq => by simp only [Value.ownBlock, Option.some.injEq] at hq; rw [← hq]; exact hS, fun j u t' hu ht => ?_⟩
  · exact World.ownsRow_lit (size := 4) w (ndT t.k t.x t.a kv) 1 (Nat.zero_le _) (by unfold maxLen; omega) rfl
  · match j, hu, ht with
    | 0, hu, ht => cases hu; cases ht; exact ⟨kv, rfl, h.row.keep ga.size (fun g hg q => ⟨ga.block g hg, q, fun e => by simp only [Value.ownBlock, Option.some.injEq] at e; omega⟩)⟩
    | j + 1, hu, ht => simp at hu
theorem OwA.lit (h : OwK w B kv t.ks) (hB : B ≤ w.heap.size) : OwK (w.alloc (.cells (ndT t.k t.x t.a kv) 27)) B (.slice (some ⟨w.heap.size, 0, none⟩) 1 1) [t] := OwA.litS hB h
def zNode : Value := .agg #[.string ⟨#[]⟩, .string ⟨#[]⟩, .int .i64 0, .slice none 0 0]
theorem info_node : (Tryd.prog.info? 27).map (fun i => (i.zero, i.size, i.bytes)) = some (some zNode, 4, 64) := by kernel_rfl
/-- A row behind a row. -/
theorem OwA.apps {S2 : Nat → Prop} (h : OwA w S v ts) (h2 : OwA w S2 v2 ts2) (hN : S w.heap.size) (hS : ∀ g, g < w.heap.size → S2 g → (v2.ownBlock ≠ some g → S g) ∧ v.ownBlock ≠ some g) (hn : ts.length + ts2.length ≤ 1000000) :
    ∃ v' w', (Builtin.append_ #[25, 25] 25 #[v, v2]).run Tryd.prog w = .ok v' w' ∧ OwA w' S v' (ts ++ ts2) ∧ Gs (fun b => v.ownBlock = some b) w w' := by
  have hlt := h.lt
  obtain ⟨ns, h1, q1, hS1, h3⟩ := h
  obtain ⟨i, hi, hz, hsz, hby⟩ := info_parts info_node
  rcases h2 with ⟨ns2, e1, p1, hS2, e3⟩
  have hone : ∀ u ∈ ns2.flatMap ncs, u.oneCell' = true := fun u hu => by
    obtain ⟨q, hq, hu⟩ := List.mem_flatMap.1 hu
    obtain ⟨t, ht⟩ := nd_all4 e1 e3 q hq
    exact ht.ones u hu
  rcases p1.2 with ⟨rfl, hn0⟩ | ⟨g, cap, cur, rfl, h4, h5, h6, h7, h8, h9⟩
  · have : ts2 = [] := List.length_eq_zero_iff.1 (by rw [← e1]; exact hn0)
    subst this
    refine ⟨_, _, run_append_owned_none (P := Tryd.prog) _ 0 25 25 27 i 4 Tryd.underlying25 hi v ns.length _ q1, ?_, Gs.refl _ _⟩
    rw [List.append_nil]
    exact ⟨ns, h1, q1, hS1, h3⟩
  · obtain ⟨v', w', hrun, r1, r2, _, r4⟩ := run_append_own_at (P := Tryd.prog) w 0 25 25 27 i _ 4 64 Tryd.underlying25 hi hz hsz hby rfl (by decide) v ns.length _ q1 ⟨g, 0, none⟩ ns2.length cap (ns2.flatMap ncs) p1.1
      (fun j u hj => by
        rw [Addr.add_lit, Nat.zero_add, cell_of_row w g j cur _ (0, 0) h5]
        rw [← h9, List.getElem?_take] at hj
        split at hj
        · rw [← Array.getElem?_toList]; exact hj
        · cases hj) hone (by unfold maxLen; omega) (by omega) (Nat.zero_le _)
    have keep : ∀ u t, NdE w (fun q => S q ∧ v.ownBlock ≠ some q) u t → NdE w' (fun q => S q ∧ v'.ownBlock ≠ some q) u t := fun u t hu => hu.keep r2.size (fun q hq hs => ⟨r2.block q hq (fun e => hs.2 e.symm), hs.1, fun e => by
      rcases r4 with r4 | r4
      · exact hs.2 (r4 ▸ e)
      · rw [r4] at e; injection e with e; omega⟩)
    refine ⟨v', w', hrun, ⟨ns ++ ns2, by simp [h1, e1], by rw [List.length_append, List.flatMap_append]; exact r1, fun q hq => ?_, fun j u t hu ht => ?_⟩, ⟨r2.os, r2.tape, r2.output, r2.size, fun b hb hb2 => r2.block b hb (fun e => hb2 e.symm)⟩⟩
    · rcases r4 with r4 | r4
      · exact hS1 q (r4 ▸ hq)
      · rw [r4] at hq; injection hq with hq; rw [← hq]; exact hN
    by_cases hj : j < ns.length
    · rw [List.getElem?_append_left hj] at hu
      rw [List.getElem?_append_left (by omega)] at ht
      exact keep u t (h3 j u t hu ht)
    · rw [List.getElem?_append_right (by omega)] at hu
      rw [List.getElem?_append_right (by omega), ← h1] at ht
      exact keep u t ((e3 _ u t hu ht).keep (Nat.le_refl _) (fun q hq hs => ⟨rfl, (hS q hq hs.1).1 hs.2, (hS q hq hs.1).2⟩))
/-- One node more, which a call at a later world told. -/
theorem OwA.appS {S2 : Nat → Prop} (h : OwA w S v ts) (hk : OwA w S2 kv t.ks) (hN : ∀ q, w.heap.size ≤ q → S q) (hS : ∀ g, S2 g → S g ∧ v.ownBlock ≠ some g) (hn : ts.length ≤ 900000) :
    ∃ v' w', (Builtin.append_ #[25, 25] 25 #[v, .slice (some ⟨w.heap.size, 0, none⟩) 1 1]).run Tryd.prog (w.alloc (.cells (ndT t.k t.x t.a kv) 27)) = .ok v' w' ∧ OwA w' S v' (ts ++ [t]) ∧ Gs (fun b => v.ownBlock = some b) w w' := by
  have ga := G.alloc w (.cells (ndT t.k t.x t.a kv) 27)
  have hlt := h.lt
  have h2 : OwA (w.alloc (.cells (ndT t.k t.x t.a kv) 27)) (fun g => g = w.heap.size ∨ S2 g) (.slice (some ⟨w.heap.size, 0, none⟩) 1 1) [t] := OwA.litS (Or.inl rfl) (hk.monoS (fun q _ hq => Or.inr hq))
  obtain ⟨v', w', r1, r2, r3⟩ := (h.g ga).apps h2 (hN _ ga.size) (fun g _ hg => by
    rcases hg with hg | hg
    · exact ⟨fun e => absurd (by rw [hg]; rfl) e, fun e => by have := (hlt g e).2; omega⟩
    · exact ⟨fun _ => (hS g hg).1, (hS g hg).2⟩) (by simp; omega)
  exact ⟨v', w', r1, r2, (gs_of_g _ ga).trans r3⟩
theorem OwA.app {B2 : Nat} (h : OwK w B v ts) (hk : OwK w B2 kv t.ks) (hB : B ≤ B2) (hB2 : B2 ≤ w.heap.size) (hv : ∀ q, v.ownBlock = some q → q < B2) (hn : ts.length ≤ 900000) :
    ∃ v' w', (Builtin.append_ #[25, 25] 25 #[v, .slice (some ⟨w.heap.size, 0, none⟩) 1 1]).run Tryd.prog (w.alloc (.cells (ndT t.k t.x t.a kv) 27)) = .ok v' w' ∧ OwK w' B v' (ts ++ [t]) ∧ Gs (fun b => v.ownBlock = some b) w w' :=
  h.appS hk (fun q hq => by show B ≤ q; omega) (fun g (hg : B2 ≤ g) => ⟨by show B ≤ g; omega, fun e => by have := hv g e; omega⟩) hn
/-- A new row: a node ahead of a row. -/
theorem OwA.pre (h : OwK w B v ts) (hk : OwK w B kv t.ks) (hB : B ≤ w.heap.size) (hn : ts.length ≤ 900000) :
    ∃ v' w', (Builtin.append_ #[25, 25] 25 #[.slice (some ⟨w.heap.size, 0, none⟩) 1 1, v]).run Tryd.prog (w.alloc (.cells (ndT t.k t.x t.a kv) 27)) = .ok v' w' ∧ OwK w' B v' (t :: ts) ∧ G w w' := by
  have ga := G.alloc w (.cells (ndT t.k t.x t.a kv) 27)
  have h2 : OwA (w.alloc (.cells (ndT t.k t.x t.a kv) 27)) (fun g => B ≤ g ∧ g < w.heap.size) v ts := (h.monoS (fun q hq (hs : B ≤ q) => ⟨hs, hq⟩)).g ga
  obtain ⟨v', w', r1, r2, r3⟩ := (hk.lit hB).apps h2 (by show B ≤ _; have := ga.size; omega) (fun g _ hg => ⟨fun _ => hg.1, fun e => by simp only [Value.ownBlock, Option.some.injEq] at e; omega⟩) (by simp; omega)
  exact ⟨v', w', r1, r2, ⟨r3.os.trans ga.os, r3.tape.trans ga.tape, r3.output.trans ga.output, Nat.le_trans ga.size r3.size, fun b hb => (r3.block b (Nat.lt_of_lt_of_le hb ga.size) (fun e => by simp only [Value.ownBlock, Option.some.injEq] at e; omega)).trans (ga.block b hb)⟩⟩
end
end Go.Proofs.YtablincnlfbjnabDoor
