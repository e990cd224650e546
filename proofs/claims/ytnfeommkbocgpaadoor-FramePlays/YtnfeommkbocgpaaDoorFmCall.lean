/- A Stack's calls: Get, Set, Jump, Return, Depth over what it holds; funcOf, takes. -/
import Derived.Test.YtnfeommkbocgpaaDoorFmLeaf
namespace Go.Proofs.YtnfeommkbocgpaaDoor
open Go.RowKit Go.Maps Go.ChangeShapes Go.WideShapes Go.ChangeAt Go.Deep

theorem rk_drewN {w : World} {B : Nat} {v : Value} {L : List Fr} (h : RK w B v L) (k : Nat) : RK (w.drewN k) B v L := h.g (G.drewN w k)
theorem sk_drewN {w : World} {B s : Nat} {v : Value} {L : List Fr} (h : SK w B s v L) (k : Nat) : SK (w.drewN k) B s v L := h.g (G.drewN w k)
theorem last_get (L : List Fr) (f : Fr) : (L ++ [f])[L.length]? = some f := by simp
theorem last_mem (L : List Fr) (f : Fr) : f ∈ L ++ [f] := by simp
theorem SK.ntop {w : World} {B s : Nat} {v : Value} {L : List Fr} {f : Fr} (h : SK w B s v (L ++ [f])) (hl : L.length ≤ 1000) : ∃ kb c, v = .slice (some ⟨kb, 0, none⟩) (L.length + 1) c ∧
    Calls Tryd.prog 28 #[.pointer (some ⟨s, 0, none⟩)] w fun e w' => e = .returned (.pointer (some ⟨kb, L.length * 3, none⟩)) ∧ ∃ k, w' = w.drewN k := by
  obtain ⟨kb, c, rfl⟩ := h.rk.vt
  exact ⟨kb, c, rfl, top_some w s kb L.length c hl h.c0⟩
theorem SK.notop {w : World} {B s : Nat} {v : Value} (h : SK w B s v []) :
    Calls Tryd.prog 28 #[.pointer (some ⟨s, 0, none⟩)] w fun e w' => e = .returned (.pointer none) ∧ w' = w := by
  obtain ⟨ao, c, rfl, _⟩ := h.rk.v
  exact top_none w s ao c h.c0
theorem s_depth {w : World} {B s : Nat} {v : Value} {L : List Fr} (h : SK w B s v L) : Calls Tryd.prog 11 #[.pointer (some ⟨s, 0, none⟩)] w fun e w' => e = .returned (.int .i64 (L.length : Int)) ∧ w' = w := by
  obtain ⟨ao, c, rfl, _⟩ := h.rk.v
  exact depth_raw w s L.length ao c h.c0
/-- What Get tells. -/
def getP (L : List Fr) (j : Int) : Int := match L.getLast? with
  | none => 0
  | some f => if j < 0 then 0 else (f.sl[j.toNat]?).getD 0
theorem getP_app (L : List Fr) (f : Fr) (j : Int) : getP (L ++ [f]) j = if j < 0 then 0 else (f.sl[j.toNat]?).getD 0 := by unfold getP; simp
theorem s_word_no {w : World} {B s : Nat} {v : Value} {L : List Fr} {f : Fr} (h : SK w B s v (L ++ [f])) (hl : L.length ≤ 1000) (j : Int) (hj : j < 0 ∨ (f.sl.length : Int) ≤ j) :
    Calls Tryd.prog 27 #[.pointer (some ⟨s, 0, none⟩), .int .i64 j] w fun e w' => e = .returned (.pointer none) ∧ ∃ k, w' = w.drewN k := by
  obtain ⟨kb, c, rfl, T⟩ := h.ntop hl
  exact word_out w s kb L.length f.sb f.sl.length f.sc j (hide T) (fun k => ((rk_drewN h.rk k).get (last_get L f)).2.2) hj
theorem s_word_in {w : World} {B s : Nat} {v : Value} {L : List Fr} {f : Fr} (h : SK w B s v (L ++ [f])) (hl : L.length ≤ 1000) (j : Nat) (hj : j < f.sl.length) :
    Calls Tryd.prog 27 #[.pointer (some ⟨s, 0, none⟩), .int .i64 (j : Int)] w fun e w' => e = .returned (.pointer (some ⟨f.sb, j, none⟩)) ∧ ∃ k, w' = w.drewN k := by
  obtain ⟨kb, c, rfl, T⟩ := h.ntop hl
  exact word_in w s kb L.length f.sb f.sl.length f.sc j (hide T) (fun k => ((rk_drewN h.rk k).get (last_get L f)).2.2) (by omega)
theorem s_get {w : World} {B s : Nat} {v : Value} {L : List Fr} (h : SK w B s v L) (hl : L.length ≤ 1000) (j : Int) :
    Calls Tryd.prog 12 #[.pointer (some ⟨s, 0, none⟩), .int .i64 j] w fun e w' => e = .returned (.int .i64 (getP L j)) ∧ ∃ k, w' = w.drewN k := by
  rcases List.eq_nil_or_concat L with rfl | ⟨L, f, rfl⟩
  · exact get_none w s j (hide (word_none w s j (hide h.notop)))
  · rw [List.concat_eq_append] at h hl ⊢
    have hl' : L.length ≤ 1000 := by simp at hl; omega
    rw [getP_app]
    by_cases h0 : j < 0 ∨ (f.sl.length : Int) ≤ j
    · have e : (if j < 0 then 0 else (f.sl[j.toNat]?).getD 0) = 0 := by
        split
        · rfl
        · rw [List.getElem?_eq_none (by omega)]; rfl
      rw [e]
      exact get_none w s j (hide (s_word_no h hl' j h0))
    · obtain ⟨i, rfl⟩ : ∃ i : Nat, j = i := ⟨j.toNat, by omega⟩
      have hi : i < f.sl.length := by omega
      rw [if_neg (by omega), Int.toNat_natCast, List.getElem?_eq_getElem hi, Option.getD_some]
      exact get_some w s f.sb i _ (hide (s_word_in h hl' i hi)) (fun k => (rk_drewN h.rk k).slot (last_mem L f) (List.getElem?_eq_getElem hi))
/-- What a call turns: the Stack's own blocks alone; what it holds then lies there or in new memory. -/
structure Mv (w w' : World) (s : Nat) (v : Value) (L : List Fr) (v' : Value) (L' : List Fr) : Prop where
  tr : TrB w w' (SKb s v L)
  nw : ∀ k, SKb s v' L' k → SKb s v L k ∨ w.heap.size ≤ k
theorem Mv.of_G {w w' : World} (s : Nat) (v : Value) (L : List Fr) (g : G w w') : Mv w w' s v L v L := ⟨TrB.of_G _ g, fun _ h => Or.inl h⟩
theorem Mv.trans {w w1 w2 : World} {s : Nat} {v v1 v2 : Value} {L L1 L2 : List Fr} (h : Mv w w1 s v L v1 L1) (k : Mv w1 w2 s v1 L1 v2 L2) : Mv w w2 s v L v2 L2 :=
  ⟨h.tr.trans k.tr (fun q hq hd => (h.nw q hd).resolve_right (by omega)), fun q hq => by
    rcases k.nw q hq with e | e
    · exact h.nw q e
    · exact Or.inr (Nat.le_trans h.tr.size e)⟩
/-- What Set leaves. -/
def setFr (f : Fr) (j x : Int) : Fr := if j < 0 ∨ (f.sl.length : Int) ≤ j then f else ⟨f.fn, f.pc, f.sb, f.sc, f.sl.set j.toNat x⟩
def setP (L : List Fr) (j x : Int) : List Fr := match L.getLast? with
  | none => L
  | some f => L.dropLast ++ [setFr f j x]
theorem setP_app (L : List Fr) (f : Fr) (j x : Int) : setP (L ++ [f]) j x = L ++ [setFr f j x] := by unfold setP; simp
theorem setFr_sb (f : Fr) (j x : Int) : (setFr f j x).sb = f.sb := by unfold setFr; split <;> rfl
theorem rkb_last {v : Value} {L : List Fr} {f f' : Fr} (e : f'.sb = f.sb) (k : Nat) (h : RKb v (L ++ [f']) k) : RKb v (L ++ [f]) k := by
  rcases h with h | ⟨g, hg, hk⟩
  · exact Or.inl h
  · rcases List.mem_append.1 hg with hg | hg
    · exact Or.inr ⟨g, List.mem_append_left _ hg, hk⟩
    · simp at hg
      subst hg
      exact Or.inr ⟨f, last_mem L f, e.symm.trans hk⟩
theorem skb_last {s : Nat} {v : Value} {L : List Fr} {f f' : Fr} (e : f'.sb = f.sb) (k : Nat) (h : SKb s v (L ++ [f']) k) : SKb s v (L ++ [f]) k := h.imp id (rkb_last e k)
theorem s_set {w : World} {B s : Nat} {v : Value} {L : List Fr} (h : SK w B s v L) (hl : L.length ≤ 1000) (j x : Int) :
    Calls Tryd.prog 18 #[.pointer (some ⟨s, 0, none⟩), .int .i64 j, .int .i64 x] w fun e w' => e = .returned (.tuple #[]) ∧ SK w' B s v (setP L j x) ∧ Mv w w' s v L v (setP L j x) := by
  rcases List.eq_nil_or_concat L with rfl | ⟨L, f, rfl⟩
  · refine (set_none w s j x (hide (word_none w s j (hide h.notop)))).mono ?_
    rintro e w' ⟨rfl, k, rfl⟩
    exact ⟨rfl, sk_drewN h k, Mv.of_G s v [] (G.drewN w k)⟩
  · rw [List.concat_eq_append] at h hl ⊢
    have hl' : L.length ≤ 1000 := by simp at hl; omega
    rw [setP_app]
    by_cases h0 : j < 0 ∨ (f.sl.length : Int) ≤ j
    · have e : setFr f j x = f := by unfold setFr; rw [if_pos h0]
      rw [e]
      refine (set_none w s j x (hide (s_word_no h hl' j h0))).mono ?_
      rintro e w' ⟨rfl, k, rfl⟩
      exact ⟨rfl, sk_drewN h k, Mv.of_G s v _ (G.drewN w k)⟩
    · have e : setFr f j x = ⟨f.fn, f.pc, f.sb, f.sc, f.sl.set j.toNat x⟩ := by unfold setFr; rw [if_neg h0]
      obtain ⟨i, rfl⟩ : ∃ i : Nat, j = i := ⟨j.toNat, by omega⟩
      have hi : i < f.sl.length := by omega
      rw [e, Int.toNat_natCast]
      refine (set_some w s f.sb i x _ (hide (s_word_in h hl' i hi)) (fun k => (rk_drewN h.rk k).slot (last_mem L f) (List.getElem?_eq_getElem hi)) (fun k => (rk_drewN h.rk k).sfro (last_mem L f) i)).mono ?_
      rintro e w' ⟨rfl, k, rfl⟩
      have hk := sk_drewN h k
      have hne : s ≠ f.sb := fun e => h.ns (Or.inr ⟨f, last_mem L f, e.symm⟩)
      refine ⟨rfl, ⟨hk.rk.set i x, ?_, ?_, hk.hs, fun hb => h.ns (rkb_last (f := f) (f' := ⟨f.fn, f.pc, f.sb, f.sc, f.sl.set i x⟩) rfl s hb)⟩, ⟨(TrB.of_G _ (G.drewN w k)).set f.sb i _ (Or.inl (Or.inr (Or.inr ⟨f, last_mem L f, rfl⟩))), fun q hq => Or.inl (skb_last (f := f) (f' := ⟨f.fn, f.pc, f.sb, f.sc, f.sl.set i x⟩) rfl q hq)⟩⟩
      · rw [cell_other _ (Or.inl hne)]; exact hk.c0
      · rw [World.frozen?_setCell]; exact hk.f0
/-- What Jump leaves. -/
def jmpFr (f : Fr) (p : Int) : Fr := ⟨f.fn, p, f.sb, f.sc, f.sl⟩
def jmpP (L : List Fr) (p : Int) : List Fr := match L.getLast? with
  | none => L
  | some f => L.dropLast ++ [jmpFr f p]
theorem jmpP_app (L : List Fr) (f : Fr) (p : Int) : jmpP (L ++ [f]) p = L ++ [jmpFr f p] := by unfold jmpP; simp
theorem s_jump {w : World} {B s : Nat} {v : Value} {L : List Fr} (h : SK w B s v L) (hl : L.length ≤ 1000) (p : Int) :
    Calls Tryd.prog 17 #[.pointer (some ⟨s, 0, none⟩), .int .i64 p] w fun e w' => e = .returned (.tuple #[]) ∧ SK w' B s v (jmpP L p) ∧ Mv w w' s v L v (jmpP L p) := by
  rcases List.eq_nil_or_concat L with rfl | ⟨L, f, rfl⟩
  · refine (jump_none w s p (hide h.notop)).mono ?_
    rintro e w' ⟨rfl, rfl⟩
    exact ⟨rfl, h, Mv.of_G s v [] (G.refl w')⟩
  · rw [List.concat_eq_append] at h hl ⊢
    have hl' : L.length ≤ 1000 := by simp at hl; omega
    rw [jmpP_app]
    obtain ⟨kb, c, rfl, T⟩ := h.ntop hl'
    refine (jump_some w s kb L.length p f.pc (hide T) (fun k => ((rk_drewN h.rk k).get (last_get L f)).2.1) (fun k => (rk_drewN h.rk k).fro _)).mono ?_
    rintro e w' ⟨rfl, k, rfl⟩
    have hk := sk_drewN h k
    have hne : s ≠ kb := fun e => h.ns (Or.inl (by rw [e]; rfl))
    refine ⟨rfl, ⟨hk.rk.jump p, ?_, ?_, hk.hs, fun hb => h.ns (rkb_last (f := f) (f' := jmpFr f p) rfl s hb)⟩, ⟨(TrB.of_G _ (G.drewN w k)).set kb _ _ (Or.inl (Or.inr (Or.inl rfl))), fun q hq => Or.inl (skb_last (f := f) (f' := jmpFr f p) rfl q hq)⟩⟩
    · rw [cell_other _ (Or.inl hne)]; exact hk.c0
    · rw [World.frozen?_setCell]; exact hk.f0
theorem rkb_pop {kb n n' c : Nat} {L : List Fr} {f : Fr} (k : Nat) (h : RKb (.slice (some ⟨kb, 0, none⟩) n c) L k) : RKb (.slice (some ⟨kb, 0, none⟩) n' c) (L ++ [f]) k := by
  rcases h with h | ⟨g, hg, hk⟩
  · exact Or.inl h
  · exact Or.inr ⟨g, List.mem_append_left _ hg, hk⟩
theorem s_return_none {w : World} {B s : Nat} {v : Value} (h : SK w B s v []) : Calls Tryd.prog 16 #[.pointer (some ⟨s, 0, none⟩)] w fun e w' => e = .returned (.bool false) ∧ w' = w := return_none w s (hide h.notop)
theorem s_return {w : World} {B s : Nat} {v : Value} {L : List Fr} {f : Fr} (h : SK w B s v (L ++ [f])) (hl : L.length ≤ 1000) :
    Calls Tryd.prog 16 #[.pointer (some ⟨s, 0, none⟩)] w fun e w' => e = .returned (.bool (decide (0 < L.length))) ∧ ∃ v', SK w' B s v' L ∧ Mv w w' s v (L ++ [f]) v' L := by
  obtain ⟨kb, c, rfl, T⟩ := h.ntop hl
  have hg := fun k => (rk_drewN h.rk k).get (last_get L f)
  have hne : s ≠ kb := fun e => h.ns (Or.inl (by rw [e]; rfl))
  have hc : L.length + 1 ≤ c := by
    rcases h.rk.own.2 with ⟨h', _⟩ | ⟨g', cap', cur, h', hb, hg, h4, _⟩
    · cases h'
    · simp only [Value.slice.injEq] at h'
      obtain ⟨_, _, rfl⟩ := h'
      simpa using h4
  refine (return_some w s kb L.length c f.fn f.pc _ hne hl hc (hide T) (fun k => (sk_drewN h k).c0) (fun k => (sk_drewN h k).f0) (fun k => (hg k).1) (fun k => (hg k).2.1) (fun k => (hg k).2.2) (fun k i => (rk_drewN h.rk k).fro i)).mono ?_
  rintro e w' ⟨rfl, k, k2, rfl⟩
  refine ⟨rfl, .slice (some ⟨kb, 0, none⟩) L.length c, ?_⟩
  have hk := (sk_drewN h k).rk.pop
  have h1 := ((hk.past (L.length * 3) (Nat.le_refl _) (.int .i64 0)).past (L.length * 3 + 1) (by omega) (.int .i64 0)).past (L.length * 3 + 2) (by omega) (.slice none 0 0)
  have h2 := rk_drewN h1 k2
  have hns : ¬ RKb (.slice (some ⟨kb, 0, none⟩) L.length c) L s := fun hb => h.ns (rkb_pop s hb)
  refine ⟨⟨h2.keep (fun q hq => heap_set _ _ (show q ≠ s from fun e => hns (by rw [← e]; exact hq))), ?_, ?_, h.hs, hns⟩, ⟨?_, fun q hq => Or.inl (hq.imp id (rkb_pop q))⟩⟩
  · refine cell_same _ (u := .slice (some ⟨kb, 0, none⟩) (L.length + 1) c) ?_
    show World.cell? _ _ = _
    rw [show ∀ (y : World) (a : Addr), (y.drewN k2).cell? a = y.cell? a from fun _ _ => rfl, cell_other _ (Or.inl hne), cell_other _ (Or.inl hne), cell_other _ (Or.inl hne)]
    exact (sk_drewN h k).c0
  · rw [World.frozen?_setCell]
    show World.frozen? _ _ = _
    rw [show ∀ (y : World) (a : Addr), (y.drewN k2).frozen? a = y.frozen? a from fun _ _ => rfl, World.frozen?_setCell, World.frozen?_setCell, World.frozen?_setCell]
    exact (sk_drewN h k).f0
  · have hin : SKb s (.slice (some ⟨kb, 0, none⟩) (L.length + 1) c) (L ++ [f]) kb := Or.inr (Or.inl rfl)
    refine TrB.set ?_ s 0 _ (Or.inl (Or.inl rfl))
    exact ((((TrB.of_G _ (G.drewN w k)).set kb _ _ (Or.inl hin)).set kb _ _ (Or.inl hin)).set kb _ _ (Or.inl hin)).more (G.drewN _ k2)

/-! ### funcOf, takes -/
def noFm : Fn := ⟨0, 0, 0, 0, [], [], []⟩
def fmAt (m : Md) (k : Int) : Option Fn := if k < 0 then none else m.fn[k.toNat]?
abbrev agF (f : Fn) (ko : Option Addr) (kc : Nat) (io : Option Addr) (ic : Nat) (mo : Option Addr) (mc : Nat) : Value := .agg #[.int .i64 f.p, .int .i64 f.c, .int .i64 f.s, .int .i64 f.r, .slice ko f.ks.length kc, .slice io f.is.length ic, .slice mo f.ms.length mc]
/-- A function that is answered, or none. -/
def FuTo (x0 x : World) (o : Option Fn) (e : Ending) (w' : World) : Prop := ∃ (ko : Option Addr) (kc : Nat) (io : Option Addr) (ic : Nat) (mo : Option Addr) (mc : Nat), e = .returned (.tuple #[agF (o.getD noFm) ko kc io ic mo mc, .bool o.isSome]) ∧ RowAt elIn x0 io (o.getD noFm).is.length ic (o.getD noFm).is ∧ RowAt elU x0 mo (o.getD noFm).ms.length mc (o.getD noFm).ms ∧ G x w'
theorem setN_G {w : World} (b : Nat) (hb : w.heap.size ≤ b) : ∀ (vs : List Value) (x : World) (i : Nat), G w x → G w (setN x b i vs)
  | [], _, _, h => h
  | v :: vs, x, i, h => setN_G b hb vs (x.setCell ⟨b, i, none⟩ v) (i + 1) (h.set b i v hb)
theorem g_fn {w x : World} (b : Nat) (hb : w.heap.size ≤ b) (g : G w x) (v0 v1 v2 v3 v4 v5 v6 : Value) : G w (((((((x.setCell ⟨b, 0, none⟩ v0).setCell ⟨b, 1, none⟩ v1).setCell ⟨b, 2, none⟩ v2).setCell ⟨b, 3, none⟩ v3).setCell ⟨b, 4, none⟩ v4).setCell ⟨b, 5, none⟩ v5).setCell ⟨b, 6, none⟩ v6) :=
  setN_G (w := w) b hb [v0, v1, v2, v3, v4, v5, v6] x 0 g
set_option maxHeartbeats 1000000 in
theorem fu_any (w0 w : World) (g0 : G w0 w) (mv : Value) (m : Md) (h : ModAt w0 mv m) (k : Int) : Calls Tryd.prog 25 #[mv, .int .i64 k] w (FuTo w0 w (fmAt m k)) := by
  obtain ⟨so, sc, go, gc, co, cc, ao, ac, fo, fc, rfl, _, _, _, _, r5⟩ := h
  by_cases h0 : k < 0
  · have e : fmAt m k = none := by unfold fmAt; rw [if_pos h0]
    have K : Hid (∀ x, G w x → FuTo w0 w (fmAt m k) (.returned (.tuple #[.agg #[.int .i64 0, .int .i64 0, .int .i64 0, .int .i64 0, .slice none 0 0, .slice none 0 0, .slice none 0 0], .bool false])) x) := hide (fun x g => by rw [e]; exact ⟨none, 0, none, 0, none, 0, rfl, RowAt.nil _, RowAt.nil _, g⟩)
    clear r5 e g0
    go_enter Tryd.func25, Tryd.ntmps25
    go_wp2_with fail
    refine bodyPost_ret (by simp [results, Tryd.results25, go_sem]; try rfl) rfl ?_
    exact unhide K _ (by first | exact (G.alloc _ _).more _ | exact g_fn (w.heap.size + 1) (by omega) ((G.alloc _ _).more _) _ _ _ _ _ _ _)
  · by_cases h1 : (m.fn.length : Int) ≤ k
    · have e : fmAt m k = none := by unfold fmAt; rw [if_neg h0, List.getElem?_eq_none (by omega)]
      have K : Hid (∀ x, G w x → FuTo w0 w (fmAt m k) (.returned (.tuple #[.agg #[.int .i64 0, .int .i64 0, .int .i64 0, .int .i64 0, .slice none 0 0, .slice none 0 0, .slice none 0 0], .bool false])) x) := hide (fun x g => by rw [e]; exact ⟨none, 0, none, 0, none, 0, rfl, RowAt.nil _, RowAt.nil _, g⟩)
      clear r5 e g0
      go_enter Tryd.func25, Tryd.ntmps25
      go_wp2_with fail
      refine bodyPost_ret (by simp [results, Tryd.results25, go_sem]; try rfl) rfl ?_
      exact unhide K _ (by first | exact (G.alloc _ _).more _ | exact g_fn (w.heap.size + 1) (by omega) ((G.alloc _ _).more _) _ _ _ _ _ _ _)
    · obtain ⟨j, rfl⟩ : ∃ j : Nat, k = j := ⟨k.toNat, by omega⟩
      have hj : j < m.fn.length := by omega
      obtain ⟨b, off, a, cs, rfl, ha, ecs, hcs⟩ := row_get r5 hj
      obtain ⟨ko, kc, io, ic, mo, mc, rfl, _, ri, rm⟩ := ecs
      have e : fmAt m (j : Int) = some a := by unfold fmAt; rw [if_neg h0, Int.toNat_natCast, ha]
      have K : Hid (∀ x, G w x → FuTo w0 w (fmAt m (j : Int)) (.returned (.tuple #[agF a ko kc io ic mo mc, .bool true])) x) := hide (fun x g => by rw [e]; exact ⟨ko, kc, io, ic, mo, mc, rfl, ri, rm, g⟩)
      obtain ⟨W2, hW2⟩ : ∃ W2, W2 = ((w.alloc (.cells #[.slice so m.sh.length sc, .slice go m.gl.length gc, .slice co m.co.length cc, .slice ao m.ca.length ac, .slice (some ⟨b, off, none⟩) m.fn.length fc, .int .i64 m.main] 33)).alloc (.cells #[.int .i64 0, .int .i64 0, .int .i64 0, .int .i64 0, .slice none 0 0, .slice none 0 0, .slice none 0 0] 43)) := ⟨_, rfl⟩
      have gW : G w W2 := by rw [hW2]; exact (G.alloc _ _).more _
      have c0 := hcs W2 (g0.trans gW) 0 _ rfl
      have c1 := hcs W2 (g0.trans gW) 1 _ rfl
      have c2 := hcs W2 (g0.trans gW) 2 _ rfl
      have c3 := hcs W2 (g0.trans gW) 3 _ rfl
      have c4 := hcs W2 (g0.trans gW) 4 _ rfl
      have c5 := hcs W2 (g0.trans gW) 5 _ rfl
      have c6 := hcs W2 (g0.trans gW) 6 _ rfl
      change W2.cell? ⟨b, off + j * 7, none⟩ = _ at c0
      change W2.cell? ⟨b, off + j * 7 + 1, none⟩ = _ at c1
      change W2.cell? ⟨b, off + j * 7 + 2, none⟩ = _ at c2
      change W2.cell? ⟨b, off + j * 7 + 3, none⟩ = _ at c3
      change W2.cell? ⟨b, off + j * 7 + 4, none⟩ = _ at c4
      change W2.cell? ⟨b, off + j * 7 + 5, none⟩ = _ at c5
      change W2.cell? ⟨b, off + j * 7 + 6, none⟩ = _ at c6
      have hlen : W2.cell? ⟨w.heap.size, 4, none⟩ = some (.slice (some ⟨b, off, none⟩) m.fn.length fc) := by rw [hW2]; simp [go_sem]
      have z0 : W2.cell? ⟨w.heap.size + 1, 0, none⟩ = some (.int .i64 0) := by rw [hW2]; simp [go_sem]
      have z1 : W2.cell? ⟨w.heap.size + 1, 1, none⟩ = some (.int .i64 0) := by rw [hW2]; simp [go_sem]
      have z2 : W2.cell? ⟨w.heap.size + 1, 2, none⟩ = some (.int .i64 0) := by rw [hW2]; simp [go_sem]
      have z3 : W2.cell? ⟨w.heap.size + 1, 3, none⟩ = some (.int .i64 0) := by rw [hW2]; simp [go_sem]
      have z4 : W2.cell? ⟨w.heap.size + 1, 4, none⟩ = some (.slice none 0 0) := by rw [hW2]; simp [go_sem]
      have z5 : W2.cell? ⟨w.heap.size + 1, 5, none⟩ = some (.slice none 0 0) := by rw [hW2]; simp [go_sem]
      have z6 : W2.cell? ⟨w.heap.size + 1, 6, none⟩ = some (.slice none 0 0) := by rw [hW2]; simp [go_sem]
      have f0 : W2.frozen? ⟨w.heap.size + 1, 0, none⟩ = false := by rw [hW2]; simp [go_sem]
      have f1 : W2.frozen? ⟨w.heap.size + 1, 1, none⟩ = false := by rw [hW2]; simp [go_sem]
      have f2 : W2.frozen? ⟨w.heap.size + 1, 2, none⟩ = false := by rw [hW2]; simp [go_sem]
      have f3 : W2.frozen? ⟨w.heap.size + 1, 3, none⟩ = false := by rw [hW2]; simp [go_sem]
      have f4 : W2.frozen? ⟨w.heap.size + 1, 4, none⟩ = false := by rw [hW2]; simp [go_sem]
      have f5 : W2.frozen? ⟨w.heap.size + 1, 5, none⟩ = false := by rw [hW2]; simp [go_sem]
      have f6 : W2.frozen? ⟨w.heap.size + 1, 6, none⟩ = false := by rw [hW2]; simp [go_sem]
      have KG : Hid (∀ v0 v1 v2 v3 v4 v5 v6, G w (((((((W2.setCell ⟨w.heap.size + 1, 0, none⟩ v0).setCell ⟨w.heap.size + 1, 1, none⟩ v1).setCell ⟨w.heap.size + 1, 2, none⟩ v2).setCell ⟨w.heap.size + 1, 3, none⟩ v3).setCell ⟨w.heap.size + 1, 4, none⟩ v4).setCell ⟨w.heap.size + 1, 5, none⟩ v5).setCell ⟨w.heap.size + 1, 6, none⟩ v6)) := hide (fun v0 v1 v2 v3 v4 v5 v6 => g_fn (w.heap.size + 1) (by omega) gW v0 v1 v2 v3 v4 v5 v6)
      have hji : (j : Int) < (m.fn.length : Int) := by omega
      have hj0 : ¬ (j : Int) < 0 := h0
      clear r5 hcs ha e gW h0 h1 ri rm g0
      go_enter Tryd.func25, Tryd.ntmps25
      go_upto_region 1 with fail
      rw [← hW2]
      clear hW2
      go_wp2_with fail
      refine bodyPost_ret (by simp [results, Tryd.results25, go_sem, z0, z1, z2, z3, z4, z5, z6]; try rfl) rfl ?_
      exact unhide K _ (unhide KG _ _ _ _ _ _ _)
/-- May it be called with so many? -/
def tkP (f : Fn) (n : Nat) : Bool := decide (0 ≤ f.s ∧ f.s ≤ 64 ∧ 0 ≤ f.p ∧ 0 ≤ f.c ∧ (n : Int) ≤ f.s ∧ f.c = (n : Int) - f.p)
set_option maxHeartbeats 1000000 in
theorem tk_any (w : World) (f : Fn) (ko : Option Addr) (kc : Nat) (io : Option Addr) (ic : Nat) (mo : Option Addr) (mc : Nat) (n : Nat) (hn : (n : Int) ≤ 9223372036854775807) (op : oI f.p) :
    Calls Tryd.prog 26 #[agF f ko kc io ic mo mc, .int .i64 (n : Int)] w fun e w' => e = .returned (.bool (tkP f n)) ∧ G w w' := by
  obtain ⟨p, c, s, r, ks, is, ms⟩ := f
  unfold agF
  simp only at op ⊢
  have g1 := fun o => hide (G.alloc w o)
  have K : ∀ b : Bool, (tkP ⟨p, c, s, r, ks, is, ms⟩ n = b) → ∀ w', Hid (G w w') → (Ending.returned (.bool b) = .returned (.bool (tkP ⟨p, c, s, r, ks, is, ms⟩ n)) ∧ G w w') := fun b h w' g => ⟨by rw [h], unhide g⟩
  by_cases h1 : s < 0
  · have E := hide (K false (by unfold tkP; simp; omega))
    clear K op
    go_enter Tryd.func26, Tryd.ntmps26
    go_wp2_with fail
    go_ret
    exact unhide E _ (g1 _)
  by_cases h2 : 64 < s
  · have E := hide (K false (by unfold tkP; simp; omega))
    clear K op
    go_enter Tryd.func26, Tryd.ntmps26
    go_wp2_with fail
    go_ret
    exact unhide E _ (g1 _)
  by_cases h3 : p < 0
  · have E := hide (K false (by unfold tkP; simp; omega))
    clear K op
    go_enter Tryd.func26, Tryd.ntmps26
    go_wp2_with fail
    go_ret
    exact unhide E _ (g1 _)
  by_cases h4 : c < 0
  · have E := hide (K false (by unfold tkP; simp; omega))
    clear K op
    go_enter Tryd.func26, Tryd.ntmps26
    go_wp2_with fail
    go_ret
    exact unhide E _ (g1 _)
  by_cases h5 : (n : Int) ≤ s
  · have hw : wrap64 ((n : Int) - p) = (n : Int) - p := by obtain ⟨_, _⟩ := op; unfold wrap64; omega
    by_cases h6 : c = (n : Int) - p
    · have E := hide (K true (by unfold tkP; simp; omega))
      have hb : (c == (n : Int) - p) = true := by simpa using h6
      clear K op h6
      go_enter Tryd.func26, Tryd.ntmps26
      go_wp2_with fail
      go_ret
      exact unhide E _ (g1 _)
    · have E := hide (K false (by unfold tkP; simp; omega))
      have hb : (c == (n : Int) - p) = false := by simpa using h6
      clear K op h6
      go_enter Tryd.func26, Tryd.ntmps26
      go_wp2_with fail
      go_ret
      exact unhide E _ (g1 _)
  · have E := hide (K false (by unfold tkP; simp; omega))
    clear K op
    go_enter Tryd.func26, Tryd.ntmps26
    go_wp2_with fail
    go_ret
    exact unhide E _ (g1 _)
end Go.Proofs.YtnfeommkbocgpaaDoor
