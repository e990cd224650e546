/- PLAIN: each call of an arena against the document's own list. -/
import Derived.Test.YtinehimleldkdaaGreatDoorPlaysMem
namespace Go.Proofs.YtinehimleldkdaaGreatDoor
set_option maxRecDepth 100000
open Go.ChangeShapes Go.WideShapes Go.ChangeAt Go.RowKit Go.Maps

def clsL (a : Ab) : List Int := (List.range a.n).map a.cls
theorem clsL_len (a : Ab) : (clsL a).length = a.n := by simp [clsL]
theorem clsL_get (a : Ab) {s : Nat} (h : s < a.n) : (clsL a)[s]? = some (a.cls s) := by simp [clsL, h]
theorem clsL_set (a a' : Ab) (s : Nat) (c : Int) (hn : a'.n = a.n) (h : ∀ t, a'.cls t = upd a.cls s c t) (hs : s < a.n) : clsL a' = (clsL a).set s c := by
  refine List.ext_getElem? fun i => ?_
  rw [List.getElem?_set]
  by_cases hi : i < a.n
  · rw [clsL_get a' (by omega), h i]
    by_cases e : s = i
    · subst e; rw [if_pos rfl, upd_same, if_pos (by rw [clsL_len]; exact hs)]
    · rw [if_neg e, upd_other _ _ (fun x => e x.symm), clsL_get a hi]
  · rw [List.getElem?_eq_none (by rw [clsL_len]; omega), if_neg (by omega), List.getElem?_eq_none (by rw [clsL_len]; omega)]
theorem clsL_same (a a' : Ab) (hn : a'.n = a.n) (h : ∀ t, a'.cls t = a.cls t) : clsL a' = clsL a := by
  unfold clsL
  rw [hn]
  exact List.map_congr_left fun t _ => h t

/-- The arena and the document's own say the same. -/
structure Rl (a : Ab) (cl : List Int) (l : List Mt) : Prop where
  cl : cl = clsL a
  rel : Rel a (things l)
section
variable {a : Ab} {cl : List Int} {l : List Mt} {s : Nat} {c x : Int}
theorem Rl.len (R : Rl a cl l) : cl.length = a.n := by rw [R.cl, clsL_len]
theorem Rl.get (R : Rl a cl l) (h : s < a.n) : cl[s]? = some (a.cls s) := by rw [R.cl]; exact clsL_get a h

theorem Rl.set (R : Rl a cl l) (h2 : s < a.n) (hs : a.cls s < 0) : Rl (a.set s c) (cl.set s c) l :=
  ⟨by rw [R.cl]; exact (clsL_set a (a.set s c) s c rfl (fun _ => rfl) h2).symm, R.rel.set hs⟩

/-! ### Take -/
theorem Rel.bit {k : List Thg} (g : a.Good) (r : Rel a k) (h1 : 1 ≤ s) (h2 : s < a.n) (h3 : 0 ≤ a.cls s) {q : Nat} (hq : (q : Int) < gp (a.cls s)) : (a.tk s).testBit q = true ↔ ∃ t, t ∈ k ∧ t.addr = ga s q (a.cls s) := by
  constructor
  · intro h
    exact r.inL s q h1 h2 h3 h hq
  · rintro ⟨t, ht, e⟩
    obtain ⟨s', p', k1, k2, k3, k4, k5, k6, _⟩ := r.isT t ht
    obtain ⟨rfl, rfl⟩ := ga_inj g.ok h1 h2 h3 hq k1 k2 k3 k4 (e.symm.trans k6)
    exact k5
theorem Rl.takes {w w' : World} {B : Nat} {r : Rd} {e : Ending} (g : a.Good) (R : Rl a cl l) (h1 : 1 ≤ s) (h2 : s < a.n) (h3 : 0 ≤ a.cls s) (P : TkPost w B r cl l s (a.cls s) e w') :
    (a.takeE s = 5 ∧ a.takeV s = 0 ∧ a.takeA s = a ∧ e = .returned (.int .i64 0) ∧ G w w') ∨
    (∃ r' l', a.takeE s = 0 ∧ 0 < a.takeV s ∧ e = .returned (.int .i64 (a.takeV s)) ∧ Rl (a.takeA s) cl l' ∧ RefAt w' B r' cl l' ∧ Rn w w' r l ∧ Grew w r r' l l' ∧ l'.length = l.length + 1) := by
  have n1 := g.ok.n1
  have h5 := (g.ok.cr s).2
  obtain ⟨gg, hg, hgf⟩ := gf_two h3 h5
  rcases P with ⟨rfl, hG, hall⟩ | ⟨p, k, m, r', rfl, p1, p2, p3, k1, k2, k3, mt, RA, rn, gw0⟩
  · have hfull : (a.tk s : Int) = gf (a.cls s) := by
      have : a.tk s = 2 ^ gg - 1 := by
        refine Nat.eq_of_testBit_eq fun q => ?_
        rw [Nat.testBit_two_pow_sub_one]
        by_cases hq : q < gg
        · rw [(R.rel.bit g h1 h2 h3 (q := q) (by omega)).2 (hall q (by omega))]
          simp [hq]
        · have : (a.tk s).testBit q = false := by
            rw [← Bool.not_eq_true]
            intro hb
            have := g.ok.tb s h3 q hb
            omega
          rw [this]; simp [hq]
      omega
    have e5 : a.takeE s = 5 := by
      unfold Ab.takeE
      rw [(a.I_at h1 h2).1, (a.I_at h1 h2).2.1, if_neg (by omega), if_pos hfull]
    exact Or.inl ⟨e5, by unfold Ab.takeV; rw [if_neg (by omega)], by unfold Ab.takeA; rw [if_neg (by omega)], rfl, hG⟩
  · have hbit : (a.tk s).testBit p = false := by
      rw [← Bool.not_eq_true, R.rel.bit g h1 h2 h3 p1]
      rintro ⟨t, ht, e⟩
      exact p2 t ht e
    have hne : (a.tk s : Int) ≠ gf (a.cls s) := by
      intro hf
      have : a.tk s = 2 ^ gg - 1 := by omega
      rw [this, Nat.testBit_two_pow_sub_one] at hbit
      simp at hbit
      omega
    have e0 : a.takeE s = 0 := by
      unfold Ab.takeE
      rw [(a.I_at h1 h2).1, (a.I_at h1 h2).2.1, if_neg (by omega), if_neg hne]
    obtain ⟨f1, f2, f3⟩ := free_spec (g.ok.tb s h3) h3 h5 hne
    have ep : freeN (a.tk s) = p := by
      rcases Nat.lt_trichotomy (freeN (a.tk s)) p with h | h | h
      · have := (R.rel.bit g h1 h2 h3 f1).2 (p3 _ h)
        rw [f2] at this
        cases this
      · exact h
      · have := f3 p h
        rw [hbit] at this
        cases this
    have eV : a.takeV s = ga s p (a.cls s) := by unfold Ab.takeV; rw [if_pos e0, (a.I_at h1 h2).1, (a.I_at h1 h2).2.1, ep]
    have eA : a.takeA s = a.take s p := by unfold Ab.takeA; rw [if_pos e0, (a.I_at h1 h2).2.1, ep]; simp
    refine Or.inr ⟨r', l.take k ++ m :: l.drop k, e0, ?_, by rw [eV], ?_, RA, rn, gw0, ?_⟩
    · rw [eV]
      exact (ga_at (s := s) (p := p) h1 (by omega) h3 h5 p1).2.2.2
    · rw [eA]
      refine ⟨by rw [R.cl]; exact (clsL_same a (a.take s p) rfl (fun _ => rfl)).symm, ?_⟩
      obtain ⟨q1, q2⟩ := parted R.rel.up (k := k) (by rw [things_len]; exact k1) k2 k3 p2
      have := R.rel.take g.ok h1 h2 h3 p1 hbit q1 q2
      have e : things (l.take k ++ m :: l.drop k) = insAt (things l) k ⟨ga s p (a.cls s), List.replicate (gw (a.cls s)).toNat 0, false⟩ := by
        unfold things insAt
        rw [List.map_append, List.map_cons, List.map_take, List.map_drop, mt]
      rw [e]
      exact this
    · rw [List.length_append, List.length_cons, List.length_take, List.length_drop]
      omega

/-! ### Mark -/
theorem Rel.mark_at {k : List Thg} (g : a.Good) (r : Rel a k) {t : Thg} (ht : t ∈ k) (hx : t.addr = x) : a.is x = true ∧ a.isM x = t.mr ∧ ∃ s p : Nat, gs x = s ∧ a.pl x = p ∧ 1 ≤ s ∧ s < a.n ∧ 0 ≤ a.cls s ∧ (p : Int) < gp (a.cls s) ∧ x = ga s p (a.cls s) ∧ (t.ws.length : Int) = gw (a.cls s) ∧ ∀ (k : Nat) v, t.ws[k]? = some v → v = a.wd (x + k) := by
  subst hx
  obtain ⟨s, p, k1, k2, k3, k4, k5, k6, k7, k8, k9⟩ := r.isT t ht
  have n1 := g.ok.n1
  obtain ⟨_, e1, e2, _⟩ := ga_at (s := s) (p := p) k1 (by omega) k3 (g.ok.cr s).2 k4
  rw [← k6] at e1 e2
  have epl : a.pl t.addr = p := by unfold Ab.pl; rw [e1, a.clsI_at k1 k2, e2]
  refine ⟨(Ab.is_iff g.ok _).2 ⟨s, p, k1, k2, k3, k4, k5, k6⟩, ?_, s, p, e1, epl, k1, k2, k3, k4, k6, k8, k9⟩
  unfold Ab.isM
  rw [e1, epl, (a.I_at k1 k2).2.2, k7]
  simp
theorem Rel.no_is {k : List Thg} (g : a.Good) (r : Rel a k) (h : ∀ t, t ∈ k → t.addr ≠ x) : a.is x = false := by
  rw [← Bool.not_eq_true, r.mem g.ok]
  rintro ⟨t, ht, e⟩
  exact h t ht e
theorem Rl.mark_no (g : a.Good) (R : Rl a cl l) (h : (∀ t, t ∈ things l → t.addr ≠ x) ∨ ∃ (i : Nat) (m : Mt), l[i]? = some m ∧ m.t.addr = x ∧ m.t.mr = true) : a.markB x = false ∧ a.markA x = a := by
  have e : a.markB x = false := by
    unfold Ab.markB
    rcases h with h | ⟨i, m, hm, hx, hr⟩
    · rw [R.rel.no_is g h]; rfl
    · obtain ⟨_, e2, _⟩ := R.rel.mark_at g (List.mem_of_getElem? (things_get hm)) hx
      rw [e2, hr]; simp
  exact ⟨e, by unfold Ab.markA; rw [if_neg (by rw [e]; decide)]⟩
theorem Rl.mark_yes (g : a.Good) (R : Rl a cl l) {i : Nat} {m : Mt} (hm : l[i]? = some m) (hx : m.t.addr = x) (hr : m.t.mr = false) : a.markB x = true ∧ Rl (a.markA x) cl (markI l i true) := by
  obtain ⟨e1, e2, s, p, k1, k2, k3, k4, k5, k6, k7, _⟩ := R.rel.mark_at g (List.mem_of_getElem? (things_get hm)) hx
  have e : a.markB x = true := by unfold Ab.markB; rw [e1, e2, hr]; rfl
  refine ⟨e, ?_⟩
  have eA : a.markA x = a.mark s p := by unfold Ab.markA; rw [if_pos e, k1, k2]; rfl
  rw [eA]
  refine ⟨by rw [R.cl]; exact (clsL_same a (a.mark s p) rfl (fun _ => rfl)).symm, ?_⟩
  rw [markI_things R.rel hm, hx, k7]
  exact R.rel.mark g.ok k3 k4 k5 k6

/-! ### Clear, Sweep -/
theorem Rl.clear (R : Rl a cl l) : Rl a.clear cl (clrM l l.length) :=
  ⟨by rw [R.cl]; exact (clsL_same a a.clear rfl (fun _ => rfl)).symm, by rw [clrM_all]; exact R.rel.clear⟩
theorem sweep_out (g : a.Good) {s : Int} (h : a.clsI s < 0) : a.sweepN s = 0 ∧ a.sweepA s = a := by
  refine ⟨?_, by unfold Ab.sweepA; rw [if_neg (by omega)]⟩
  unfold Ab.sweepN
  rw [cnt_zero]
  intro p _
  have : a.tkI s = 0 := by
    by_cases hs : 1 ≤ s ∧ s < a.n
    · obtain ⟨k, rfl⟩ := Int.eq_ofNat_of_zero_le (show 0 ≤ s by omega)
      rw [a.clsI_at (by omega) (by omega)] at h
      rw [(a.I_at (s := k) (by omega) (by omega)).2.1, (g.z k h).1]
    · exact (a.I_no hs).2.1
  rw [this]
  simp
theorem Rl.sweep (g : a.Good) (R : Rl a cl l) (h1 : 1 ≤ s) (h2 : s < a.n) (h3 : 0 ≤ a.cls s) : goneN l s l.length = a.sweepN s ∧ Rl (a.sweepA s) (if leftN l s l.length = 0 then cl.set s (-1) else cl) (keptM l s l.length) := by
  have eA : a.sweepA s = a.sweep s := by unfold Ab.sweepA; rw [a.clsI_at h1 h2, if_pos h3]; rfl
  refine ⟨goneN_count g R.rel h1 h2 h3, ?_⟩
  rw [eA]
  have hz := leftN_zero g R.rel h1 h2 h3
  refine ⟨?_, by rw [keptM_things]; exact R.rel.sweep g.ok s⟩
  by_cases hk : a.kept s = 0
  · rw [if_pos (hz.2 hk), R.cl]
    exact (clsL_set a (a.sweep s) s (-1) rfl (fun t => by show (if a.kept s = 0 then upd a.cls s (-1) else a.cls) t = _; rw [if_pos hk]) h2).symm
  · rw [if_neg (fun e => hk (hz.1 e)), R.cl]
    exact (clsL_same a (a.sweep s) rfl (fun t => by show (if a.kept s = 0 then upd a.cls s (-1) else a.cls) t = _; rw [if_neg hk])).symm

/-! ### Read, Write -/
/-- A word of the thing i. -/
def wordI (l : List Mt) (i k : Nat) (v : Int) : List Mt := l.modify i fun m => { m with t := { m.t with ws := m.t.ws.set k v } }
theorem wordI_get (l : List Mt) (i k : Nat) (v : Int) (j : Nat) : (wordI l i k v)[j]? = (l[j]?).map fun m => if i = j then { m with t := { m.t with ws := m.t.ws.set k v } } else m := by
  unfold wordI
  rw [List.getElem?_modify]
  by_cases e : i = j
  · simp [e]
  · simp [e]
theorem Rl.in_ (g : a.Good) (R : Rl a cl l) {i : Nat} {m : Mt} (hm : l[i]? = some m) (hx : m.t.addr = x) (k : Int) : a.inW x k = (decide (0 ≤ k) && decide (k < m.t.ws.length)) := by
  obtain ⟨e1, _, s, p, k1, _, k3, k4, _, _, _, k8, _⟩ := R.rel.mark_at g (List.mem_of_getElem? (things_get hm)) hx
  unfold Ab.inW
  rw [e1, k1, a.clsI_at k3 k4, ← k8, Bool.true_and]
theorem Rl.out (g : a.Good) (R : Rl a cl l) (h : ∀ t, t ∈ things l → t.addr ≠ x) (k : Int) : a.inW x k = false := by
  unfold Ab.inW
  rw [R.rel.no_is g h]; rfl
theorem Rl.write (g : a.Good) (R : Rl a cl l) {i k : Nat} {m : Mt} (hm : l[i]? = some m) (hx : m.t.addr = x) (hk : k < m.t.ws.length) (v : Int) : Rl (a.writeA x k v) cl (wordI l i k v) := by
  have hin : a.inW x k = true := by rw [R.in_ g hm hx]; simp; omega
  obtain ⟨e1, _, s, p, k1, _, k3, k4, k5, k6, k7, k8, _⟩ := R.rel.mark_at g (List.mem_of_getElem? (things_get hm)) hx
  have eA : a.writeA x k v = a.write (x + k) v := by unfold Ab.writeA; rw [if_pos hin]
  rw [eA]
  refine ⟨by rw [R.cl]; exact (clsL_same a _ rfl (fun _ => rfl)).symm, ?_⟩
  have := R.rel.write g.ok (v := v) k3 k4 k5 k6 (k := k) (by omega)
  rw [← k7] at this
  have e : things (wordI l i k v) = writeAt (things l) x k v := by
    refine List.ext_getElem? fun j => ?_
    unfold things writeAt
    rw [List.getElem?_map, wordI_get, List.getElem?_map, List.getElem?_map]
    cases hj : l[j]? with
    | none => rfl
    | some n =>
      simp only [Option.map_some, Option.some.injEq]
      by_cases e : i = j
      · subst e
        rw [hm] at hj
        rw [← Option.some.inj hj]
        simp [hx]
      · rw [if_neg e, if_neg]
        intro ha
        exact e (R.rel.one (things_get hm) (things_get hj) (hx.trans ha.symm))
  rw [e]
  exact this
theorem Rl.read (g : a.Good) (R : Rl a cl l) {i k : Nat} {m : Mt} {v : Int} (hm : l[i]? = some m) (hx : m.t.addr = x) (hk : m.t.ws[k]? = some v) : a.readE x k = 0 ∧ a.readV x k = v := by
  have hlt := (List.getElem?_eq_some_iff.1 hk).1
  have hin : a.inW x k = true := by rw [R.in_ g hm hx]; simp; omega
  obtain ⟨_, _, s, p, _, _, _, _, _, _, _, _, k9⟩ := R.rel.mark_at g (List.mem_of_getElem? (things_get hm)) hx
  unfold Ab.readE Ab.readV
  rw [if_pos hin, if_pos hin]
  exact ⟨rfl, (k9 k v hk).symm⟩
theorem read_out {k : Int} (h : a.inW x k = false) : a.readE x k = 1 ∧ a.readV x k = 0 ∧ ∀ v, a.writeA x k v = a := by
  unfold Ab.readE Ab.readV Ab.writeA
  rw [if_neg (by rw [h]; decide), if_neg (by rw [h]; decide)]
  exact ⟨rfl, rfl, fun v => by rw [if_neg (by rw [h]; decide)]⟩
end

theorem rl_new (n : Nat) : Rl (ab0 n) (List.replicate n (-1)) [] := by
  refine ⟨?_, ⟨List.Pairwise.nil, fun t ht => by simp [things] at ht, fun s p _ _ h3 => absurd h3 (show ¬ (0 : Int) ≤ -1 by decide)⟩⟩
  refine List.ext_getElem? fun i => ?_
  by_cases hi : i < n
  · rw [clsL_get (ab0 n) (show i < (ab0 n).n from hi)]
    simp [hi, ab0]
  · rw [List.getElem?_eq_none (by simp; omega), List.getElem?_eq_none (by rw [clsL_len]; show n ≤ i; omega)]

/-- A word is written into a thing. -/
theorem RefAt.setWord {w : World} {B : Nat} {r : Rd} {cl : List Int} {l : List Mt} (h : RefAt w B r cl l) {i k : Nat} {m : Mt} (hm : l[i]? = some m) (hk : k < m.t.ws.length) (v : Int) : RefAt (w.setCell ⟨m.wb, k, none⟩ (.int .i64 v)) B r cl (wordI l i k v) ∧ Rn w (w.setCell ⟨m.wb, k, none⟩ (.int .i64 v)) r l ∧ Grew w r r l (wordI l i k v) := by
  have hml := List.mem_of_getElem? hm
  obtain ⟨W0, n1, n2, n3⟩ := h.wd m hml
  have o : ∀ b j, b ≠ m.wb → (w.setCell ⟨m.wb, k, none⟩ (.int .i64 v)).cell? ⟨b, j, none⟩ = w.cell? ⟨b, j, none⟩ := fun b j hb => cell_other _ (Or.inl hb)
  have fz : ∀ a, (w.setCell ⟨m.wb, k, none⟩ (.int .i64 v)).frozen? a = w.frozen? a := fun a => World.frozen?_setCell _ _ _ _
  have sz : (w.setCell ⟨m.wb, k, none⟩ (.int .i64 v)).heap.size = w.heap.size := World.size_setCell _ _ _
  have hlen : (wordI l i k v).length = l.length := by simp [wordI]
  have back : ∀ (j : Nat) m', (wordI l i k v)[j]? = some m' → ∃ m0, l[j]? = some m0 ∧ m'.wb = m0.wb ∧ m'.wc = m0.wc ∧ m'.t.addr = m0.t.addr ∧ m'.t.mr = m0.t.mr ∧ m'.t.ws = if i = j then m0.t.ws.set k v else m0.t.ws := by
    intro j m' hj
    rw [wordI_get] at hj
    obtain ⟨m0, h0, rfl⟩ := Option.map_eq_some_iff.1 hj
    refine ⟨m0, h0, ?_⟩
    by_cases e : i = j
    · simp [e]
    · simp [e]
  have apart : ∀ (j : Nat) m0, l[j]? = some m0 → i ≠ j → m0.wb ≠ m.wb := by
    intro j m0 h0 hne
    obtain ⟨hil, rfl⟩ := List.getElem?_eq_some_iff.1 hm
    obtain ⟨hjl, rfl⟩ := List.getElem?_eq_some_iff.1 h0
    have hp := List.pairwise_iff_getElem.1 h.ap
    rcases Nat.lt_or_gt_of_ne hne with h1 | h1
    · exact Ne.symm (hp i j hil hjl h1)
    · exact hp j i hjl hil h1
  refine ⟨⟨(o _ _ (Ne.symm n1)).trans h.c0, by rw [hlen]; exact (o _ _ (Ne.symm n1)).trans h.c1, fun i => (fz _).trans (h.f0 i), fun i z hz => (o _ _ (Ne.symm n2)).trans (h.cv i z hz), fun i => (fz _).trans (h.cf i), h.cle, by rw [hlen]; exact h.lle, h.lmx, ?_, ?_, ?_, ?_, ?_, h.b0, h.b1, by rw [sz]; exact h.h0, by rw [sz]; exact h.h1, h.ne⟩, ?_, ⟨rfl, rfl, fun _ h => Or.inl h, ?_⟩⟩
  · intro j m' hj
    obtain ⟨m0, h0, e1, e2, e3, e4, e5⟩ := back j m' hj
    obtain ⟨b, e, x0, x1, x2⟩ := h.row j m0 h0
    have hb : b ≠ m.wb := Ne.symm (n3 _ e)
    refine ⟨b, e, (o _ _ hb).trans (by rw [e3]; exact x0), (o _ _ hb).trans ?_, (o _ _ hb).trans (by rw [e4]; exact x2)⟩
    rw [e1, e2, e5, x1]
    by_cases e : i = j
    · rw [if_pos e, List.length_set]
    · rw [if_neg e]
  · intro a ha
    obtain ⟨y0, y1, y2, y3, y4, y5⟩ := h.lf a ha
    exact ⟨y0, y1, by rw [sz]; exact y2, fun i => (fz _).trans (y3 i), y4, y5⟩
  · intro e
    obtain ⟨e1, e2⟩ := h.nil e
    rw [e1] at hm
    simp at hm
  · intro m' hm'
    obtain ⟨j, hj⟩ := List.getElem?_of_mem hm'
    obtain ⟨m0, h0, e1, e2, e3, e4, e5⟩ := back j m' hj
    obtain ⟨q0, q1, q2, q3⟩ := h.wd m0 (List.mem_of_getElem? h0)
    refine ⟨⟨fun q y hq => ?_, fun q => by rw [e1]; exact (fz _).trans (q0.f q), by rw [e1]; exact q0.lo, by rw [e1, sz]; exact q0.hi, ?_, by rw [e2]; exact q0.mx⟩, by rw [e1]; exact q1, by rw [e1]; exact q2, fun a ha => by rw [e1]; exact q3 a ha⟩
    · rw [e5] at hq
      rw [e1]
      by_cases e : i = j
      · subst e
        rw [if_pos rfl] at hq
        rw [hm] at h0
        obtain rfl := Option.some.inj h0
        rw [List.getElem?_set] at hq
        by_cases eq : k = q
        · subst eq
          rw [if_pos rfl, if_pos hk] at hq
          rw [← Option.some.inj hq]
          exact cell_same _ (W0.v k _ (List.getElem?_eq_getElem hk))
        · rw [if_neg eq] at hq
          rw [cell_other _ (Or.inr (fun x => eq x.symm))]
          exact W0.v q y hq
      · rw [if_neg e] at hq
        rw [o _ _ (apart j m0 h0 e)]
        exact q0.v q y hq
    · rw [e2, e5]
      by_cases e : i = j
      · rw [if_pos e, List.length_set]; exact q0.le
      · rw [if_neg e]; exact q0.le
  · rw [List.pairwise_iff_getElem]
    intro p q hp hq hpq
    obtain ⟨m1, h1, e1, _⟩ := back p _ (List.getElem?_eq_getElem hp)
    obtain ⟨m2, h2, e2, _⟩ := back q _ (List.getElem?_eq_getElem hq)
    rw [e1, e2]
    obtain ⟨hpl, rfl⟩ := List.getElem?_eq_some_iff.1 h1
    obtain ⟨hql, rfl⟩ := List.getElem?_eq_some_iff.1 h2
    exact List.pairwise_iff_getElem.1 h.ap p q hpl hql hpq
  · exact ⟨rfl, rfl, rfl, by rw [sz]; exact Nat.le_refl _, fun b hb b0 b1 b2 b3 => Below.heap_setCell _ _ _ _ (b3 m hml)⟩
  · intro m' hm'
    obtain ⟨j, hj⟩ := List.getElem?_of_mem hm'
    obtain ⟨m0, h0, e1, _⟩ := back j m' hj
    exact Or.inl ⟨m0, List.mem_of_getElem? h0, e1⟩
theorem maps_any {a : Ab} {l : List Mt} (g : a.Good) (r : Rel a (things l)) {s : Nat} (h2 : s < a.n) : tkM l s (a.cls s) l.length = a.tkI s ∧ mrM l s (a.cls s) l.length = a.mrI s := by
  by_cases h1 : 1 ≤ s
  · obtain ⟨_, i1, i2⟩ := a.I_at h1 h2
    rw [i1, i2]
    exact maps_at g r h1 h2
  · obtain rfl : s = 0 := by omega
    obtain ⟨_, i1, i2⟩ := a.I_no (s := ((0 : Nat) : Int)) (by omega)
    rw [i1, i2]
    have hn := r.none g.ok (s := 0) (by rw [g.ok.c0]; decide)
    have e : ∀ f : Bool → Bool, mapsT (things l) 0 (a.cls 0) f 0 = 0 := by
      intro f
      refine Nat.eq_of_testBit_eq fun q => ?_
      rw [Bool.eq_iff_iff, mapsT_bit]
      constructor
      · rintro (h | ⟨t, ht, e1, _⟩)
        · exact h
        · exact absurd e1 (hn t ht)
      · exact fun h => Or.inl h
    unfold tkM mrM
    rw [← things_len l, List.take_length]
    exact ⟨e _, e _⟩
theorem clsI_any {a : Ab} (g : a.Good) {s : Nat} (h2 : s < a.n) : a.clsI s = a.cls s := by
  by_cases h1 : 1 ≤ s
  · exact a.clsI_at h1 h2
  · obtain rfl : s = 0 := by omega
    rw [(a.I_no (s := ((0 : Nat) : Int)) (by omega)).1, g.ok.c0]
end Go.Proofs.YtinehimleldkdaaGreatDoor
