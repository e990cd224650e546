/- The document's own Encode (gantlineref9.Encode). -/
import Derived.Test.YtdekhnfncecacaaDoorCodeRw
import Derived.Deep.DeepCutAuto
namespace Go.Proofs.YtdekhnfncecacaaDoor
set_option maxRecDepth 100000
open Go.RowKit Go.Maps Go.ChangeShapes Go.WideShapes Go.ChangeAt Go.Deep

theorem elI_new (x : World) (vs : List Int) (h : vs.length ≤ maxLen) : RowAt elI (x.alloc (.cells (vs.map (Value.int .i64)).toArray 3)) (some ⟨x.heap.size, 0, none⟩) vs.length vs.length vs := by
  refine ⟨rfl, h, (fun e => by cases e), Or.inr ⟨x.heap.size, 0, rfl, by rw [World.size_alloc]; omega, fun i a hi => ⟨_, rfl, ?_⟩⟩⟩
  intro j v hv
  match j, hv with
  | 0, hv =>
    simp at hv
    rw [cell_of_row _ _ _ _ _ _ (heap_alloc_new x _), ← hv]
    simp [elI, hi]
  | j + 1, hv => simp at hv
/-- ints of numbers told one by one. -/
theorem ints_new (x : World) (vb : Value) (zs vs : List Int) (h : BB x vb zs) (hv : ∀ a ∈ vs, oI a) (hl : vs.length ≤ 100) (hn : zs.length + (vs.flatMap eI).length ≤ 10000000) :
    Calls Tryd.prog 33 #[vb, .slice (some ⟨x.heap.size, 0, none⟩) vs.length vs.length] (x.alloc (.cells (vs.map (Value.int .i64)).toArray 3)) (BTo x (zs ++ vs.flatMap eI)) := by
  refine (rints _ vb zs _ _ _ vs (h.g (G.alloc x _)) (elI_new x vs (by unfold maxLen; omega)) hv hn).mono ?_
  rintro e w' ⟨v', rfl, F, g⟩
  exact ⟨v', rfl, F, (G.alloc x _).trans g⟩
/-- What stands between the steps. -/
def EncS (W0 x : World) (v : Value) (zs : List Int) : Prop := BB x v zs ∧ G W0 x
theorem EncS.next {W0 x w' : World} {zs : List Int} {v' : Value} (g0 : G W0 x) (h : BB w' v' zs ∧ G x w') : EncS W0 w' v' zs := ⟨h.1, g0.trans h.2⟩
/-- One more. -/
theorem take_snoc {α : Type} (e : α → List Int) (l : List α) (k n : Nat) (a : α) (zs : List Int) (h : l[k]? = some a) : zs ++ (eU n ++ (l.take k).flatMap e) ++ e a = zs ++ (eU n ++ (l.take (k + 1)).flatMap e) := by
  rw [flat_take e l k a h]
  simp
theorem take_bound {α : Type} (e : α → List Int) (l : List α) (k n : Nat) (a : α) (zs : List Int) (hl : l.length = n) (h : l[k]? = some a) (hn : zs.length + (eL e l).length ≤ 10000000) : (zs ++ (eU n ++ (l.take k).flatMap e)).length + (e a).length ≤ 10000000 := by
  have h3 := flat_take_len e l (k + 1)
  rw [flat_take e l k a h, List.length_append] at h3
  unfold eL at hn
  rw [hl, List.length_append] at hn
  rw [List.length_append, List.length_append]
  omega


def ETo (W0 : World) (zs : List Int) (e : Ending) (w' : World) : Prop := ∃ v', e = .returned v' ∧ EncS W0 w' v' zs
theorem st_many {α : Type} (e : α → List Int) (l : List α) {W0 wr : World} {vb : Value} {zs : List Int} (n : Nat) (h : EncS W0 wr vb zs) (hn : n ≤ 10000000) (hz : zs.length ≤ 10000000) :
    Calls Tryd.prog 32 #[vb, .int .i64 (n : Int)] wr (ETo W0 (zs ++ (eU n ++ (l.take 0).flatMap e))) := by
  refine (rmany wr vb zs n h.1 hn hz).mono ?_
  rintro e w2 ⟨v2, rfl, F, g⟩
  exact ⟨v2, rfl, by simpa using F, h.2.trans g⟩
theorem st_bools {w W0 wr : World} {vb : Value} {zs : List Int} {ao : Option Addr} {n c : Nat} {l : List Bool} (h : EncS W0 wr vb zs) (hr : RowAt elB w ao n c l) (gw : G w W0) (hz : zs.length + (eL eB l).length ≤ 10000000) :
    Calls Tryd.prog 35 #[vb, .slice ao n c] wr (ETo W0 (zs ++ eL eB l)) := by
  refine (rbools wr vb zs ao n c l h.1 (hr.g okB (gw.trans h.2)) hz).mono ?_
  rintro e w2 ⟨v2, rfl, F, g⟩
  exact ⟨v2, rfl, F, h.2.trans g⟩
theorem st_ints {W0 wr x : World} {vb : Value} {zs : List Int} (vs : List Int) (h : EncS W0 wr vb zs) (gx : G wr x) (hv : ∀ a ∈ vs, oI a) (hl : vs.length ≤ 100) (hz : zs.length + (vs.flatMap eI).length ≤ 10000000) :
    Calls Tryd.prog 33 #[vb, .slice (some ⟨x.heap.size, 0, none⟩) vs.length vs.length] (x.alloc (.cells (vs.map (Value.int .i64)).toArray 3)) (ETo W0 (zs ++ vs.flatMap eI)) := by
  refine (ints_new x vb zs vs (h.1.g gx) hv hl hz).mono ?_
  rintro e w2 ⟨v2, rfl, F, g⟩
  exact ⟨v2, rfl, F, (h.2.trans gx).trans g⟩
theorem st_el_ints {α : Type} (e : α → List Int) (l : List α) {W0 wr x : World} {vb : Value} {zs : List Int} (n k : Nat) (a : α) (vs : List Int) (h : EncS W0 wr vb (zs ++ (eU n ++ (l.take k).flatMap e))) (gx : G wr x) (hln : l.length = n) (ha : l[k]? = some a) (ev : e a = vs.flatMap eI) (hv : ∀ a ∈ vs, oI a) (hl : vs.length ≤ 100) (hz : zs.length + (eL e l).length ≤ 10000000) :
    Calls Tryd.prog 33 #[vb, .slice (some ⟨x.heap.size, 0, none⟩) vs.length vs.length] (x.alloc (.cells (vs.map (Value.int .i64)).toArray 3)) (ETo W0 (zs ++ (eU n ++ (l.take (k + 1)).flatMap e))) := by
  have := st_ints vs h gx hv hl (by rw [← ev]; exact take_bound e l k n a zs hln ha hz)
  rw [← ev, take_snoc e l k n a zs ha] at this
  exact this
theorem st_el_put {α : Type} (e : α → List Int) (l : List α) {W0 wr : World} {vb : Value} {zs : List Int} (n k : Nat) (a : α) (u : Nat) (h : EncS W0 wr vb (zs ++ (eU n ++ (l.take k).flatMap e))) (hln : l.length = n) (ha : l[k]? = some a) (ev : e a = eU u) (hu : oU u) (hz : zs.length + (eL e l).length ≤ 10000000) :
    Calls Tryd.prog 34 #[vb, .int .u64 (u : Int)] wr (ETo W0 (zs ++ (eU n ++ (l.take (k + 1)).flatMap e))) := by
  have hb := take_bound e l k n a zs hln ha hz
  refine (rp wr vb _ u h.1 hu (by omega)).mono ?_
  rintro e' w2 ⟨v2, rfl, F, g⟩
  refine ⟨v2, rfl, ?_, h.2.trans g⟩
  rw [← take_snoc e l k n a zs ha, ev]
  exact F
theorem st_fin {α : Type} (e : α → List Int) (l : List α) (n : Nat) (zs : List Int) (hln : l.length = n) : zs ++ (eU n ++ (l.take n).flatMap e) = zs ++ eL e l := by
  unfold eL
  rw [List.take_of_length_le (by omega), hln]


/-- The steps of one function. -/
structure FnStep (w W0 wr : World) (vb : Value) (a : Fn) (ko : Option Addr) (kc : Nat) (io : Option Addr) (ic : Nat) (mo : Option Addr) (mc : Nat) (Ze Y1 Y2 Y3 : List Int) : Prop where
  fx : ∀ x, G (wr.alloc (.cells #[.int .i64 a.p, .int .i64 a.c, .int .i64 a.s, .int .i64 a.r, .slice ko a.ks.length kc, .slice io a.is.length ic, .slice mo a.ms.length mc] 85)) x → G w x ∧ G W0 x ∧ x.cell? ⟨wr.heap.size, 4, none⟩ = some (.slice ko a.ks.length kc) ∧ x.cell? ⟨wr.heap.size, 5, none⟩ = some (.slice io a.is.length ic) ∧ x.cell? ⟨wr.heap.size, 6, none⟩ = some (.slice mo a.ms.length mc)
  n1 : Calls Tryd.prog 33 #[vb, .slice (some ⟨wr.heap.size + 1, 0, none⟩) 4 4] ((wr.alloc (.cells #[.int .i64 a.p, .int .i64 a.c, .int .i64 a.s, .int .i64 a.r, .slice ko a.ks.length kc, .slice io a.is.length ic, .slice mo a.ms.length mc] 85)).alloc (.cells #[.int .i64 a.p, .int .i64 a.c, .int .i64 a.s, .int .i64 a.r] 3)) (ETo (wr.alloc (.cells #[.int .i64 a.p, .int .i64 a.c, .int .i64 a.s, .int .i64 a.r, .slice ko a.ks.length kc, .slice io a.is.length ic, .slice mo a.ms.length mc] 85)) Y1)
  n2 : ∀ x v, EncS (wr.alloc (.cells #[.int .i64 a.p, .int .i64 a.c, .int .i64 a.s, .int .i64 a.r, .slice ko a.ks.length kc, .slice io a.is.length ic, .slice mo a.ms.length mc] 85)) x v Y1 → Calls Tryd.prog 35 #[v, .slice ko a.ks.length kc] x (ETo (wr.alloc (.cells #[.int .i64 a.p, .int .i64 a.c, .int .i64 a.s, .int .i64 a.r, .slice ko a.ks.length kc, .slice io a.is.length ic, .slice mo a.ms.length mc] 85)) Y2)
  n3 : ∀ x v, EncS (wr.alloc (.cells #[.int .i64 a.p, .int .i64 a.c, .int .i64 a.s, .int .i64 a.r, .slice ko a.ks.length kc, .slice io a.is.length ic, .slice mo a.ms.length mc] 85)) x v Y2 → Calls Tryd.prog 32 #[v, .int .i64 (a.is.length : Int)] x (ETo (wr.alloc (.cells #[.int .i64 a.p, .int .i64 a.c, .int .i64 a.s, .int .i64 a.r, .slice ko a.ks.length kc, .slice io a.is.length ic, .slice mo a.ms.length mc] 85)) (Y2 ++ (eU a.is.length ++ (a.is.take 0).flatMap eIn)))
  n4 : ∀ (j : Nat) x v, j < a.is.length → EncS (wr.alloc (.cells #[.int .i64 a.p, .int .i64 a.c, .int .i64 a.s, .int .i64 a.r, .slice ko a.ks.length kc, .slice io a.is.length ic, .slice mo a.ms.length mc] 85)) x v (Y2 ++ (eU a.is.length ++ (a.is.take j).flatMap eIn)) → ∃ (b off : Nat) (i : In), io = some ⟨b, off, none⟩ ∧ x.cell? ⟨b, off + j * 5, none⟩ = some (.int .i64 i.op) ∧ x.cell? ⟨b, off + j * 5 + 1, none⟩ = some (.int .i64 i.a) ∧ x.cell? ⟨b, off + j * 5 + 2, none⟩ = some (.int .i64 i.b) ∧ x.cell? ⟨b, off + j * 5 + 3, none⟩ = some (.int .i64 i.c) ∧ x.cell? ⟨b, off + j * 5 + 4, none⟩ = some (.int .i64 i.d) ∧
    Calls Tryd.prog 33 #[v, .slice (some ⟨x.heap.size + 1, 0, none⟩) 5 5] ((x.alloc (.cells #[.int .i64 i.op, .int .i64 i.a, .int .i64 i.b, .int .i64 i.c, .int .i64 i.d] 97)).alloc (.cells #[.int .i64 i.op, .int .i64 i.a, .int .i64 i.b, .int .i64 i.c, .int .i64 i.d] 3)) (ETo (wr.alloc (.cells #[.int .i64 a.p, .int .i64 a.c, .int .i64 a.s, .int .i64 a.r, .slice ko a.ks.length kc, .slice io a.is.length ic, .slice mo a.ms.length mc] 85)) (Y2 ++ (eU a.is.length ++ (a.is.take (j + 1)).flatMap eIn)))
  q4 : Y2 ++ (eU a.is.length ++ (a.is.take a.is.length).flatMap eIn) = Y3
  n5 : ∀ x v, EncS (wr.alloc (.cells #[.int .i64 a.p, .int .i64 a.c, .int .i64 a.s, .int .i64 a.r, .slice ko a.ks.length kc, .slice io a.is.length ic, .slice mo a.ms.length mc] 85)) x v Y3 → Calls Tryd.prog 32 #[v, .int .i64 (a.ms.length : Int)] x (ETo (wr.alloc (.cells #[.int .i64 a.p, .int .i64 a.c, .int .i64 a.s, .int .i64 a.r, .slice ko a.ks.length kc, .slice io a.is.length ic, .slice mo a.ms.length mc] 85)) (Y3 ++ (eU a.ms.length ++ (a.ms.take 0).flatMap eU)))
  n6 : ∀ (j : Nat) x v, j < a.ms.length → EncS (wr.alloc (.cells #[.int .i64 a.p, .int .i64 a.c, .int .i64 a.s, .int .i64 a.r, .slice ko a.ks.length kc, .slice io a.is.length ic, .slice mo a.ms.length mc] 85)) x v (Y3 ++ (eU a.ms.length ++ (a.ms.take j).flatMap eU)) → ∃ (b off u : Nat), mo = some ⟨b, off, none⟩ ∧ x.cell? ⟨b, off + j, none⟩ = some (.int .u64 (u : Int)) ∧
    Calls Tryd.prog 34 #[v, .int .u64 (u : Int)] x (ETo (wr.alloc (.cells #[.int .i64 a.p, .int .i64 a.c, .int .i64 a.s, .int .i64 a.r, .slice ko a.ks.length kc, .slice io a.is.length ic, .slice mo a.ms.length mc] 85)) (Y3 ++ (eU a.ms.length ++ (a.ms.take (j + 1)).flatMap eU)))
  q6 : ∀ x v, EncS (wr.alloc (.cells #[.int .i64 a.p, .int .i64 a.c, .int .i64 a.s, .int .i64 a.r, .slice ko a.ks.length kc, .slice io a.is.length ic, .slice mo a.ms.length mc] 85)) x v (Y3 ++ (eU a.ms.length ++ (a.ms.take a.ms.length).flatMap eU)) → EncS W0 x v Ze
  k5 : a.is.length ≤ 10000000
  k6 : a.ms.length ≤ 10000000
theorem fn_step {w W0 wr : World} {vb : Value} {a : Fn} {ko : Option Addr} {kc : Nat} {io : Option Addr} {ic : Nat} {mo : Option Addr} {mc : Nat} {zs : List Int} (gw : G w W0) (h : EncS W0 wr vb zs) (oa : oFn a) (r1 : RowAt elB w ko a.ks.length kc a.ks) (r2 : RowAt elIn w io a.is.length ic a.is) (r3 : RowAt elU w mo a.ms.length mc a.ms) (hz : zs.length + (eFn a).length ≤ 10000000) :
    ∃ Y1 Y2 Y3, FnStep w W0 wr vb a ko kc io ic mo mc (zs ++ eFn a) Y1 Y2 Y3 := by
  obtain ⟨o1, o2, o3, o4, o5, o6, o7⟩ := oa
  have gf : G wr (wr.alloc (.cells #[.int .i64 a.p, .int .i64 a.c, .int .i64 a.s, .int .i64 a.r, .slice ko a.ks.length kc, .slice io a.is.length ic, .slice mo a.ms.length mc] 85)) := G.alloc wr _
  have hlen : (eFn a).length = ([a.p, a.c, a.s, a.r].flatMap eI).length + (eL eB a.ks).length + (eL eIn a.is).length + (eL eU a.ms).length := by simp [eFn]; omega
  have FX : ∀ x, G (wr.alloc (.cells #[.int .i64 a.p, .int .i64 a.c, .int .i64 a.s, .int .i64 a.r, .slice ko a.ks.length kc, .slice io a.is.length ic, .slice mo a.ms.length mc] 85)) x → G w x ∧ G W0 x ∧ x.cell? ⟨wr.heap.size, 4, none⟩ = some (.slice ko a.ks.length kc) ∧ x.cell? ⟨wr.heap.size, 5, none⟩ = some (.slice io a.is.length ic) ∧ x.cell? ⟨wr.heap.size, 6, none⟩ = some (.slice mo a.ms.length mc) := fun x g =>
    ⟨gw.trans (h.2.trans (gf.trans g)), h.2.trans (gf.trans g), g.cell (by simp [go_sem]), g.cell (by simp [go_sem]), g.cell (by simp [go_sem])⟩
  have k5 : a.is.length ≤ 10000000 := by have := flat_len cIn a.is o6.2; unfold eL at hlen; simp only [List.length_append] at hlen; omega
  have k6 : a.ms.length ≤ 10000000 := by have := flat_len cU a.ms o7.2; unfold eL at hlen; simp only [List.length_append] at hlen; omega
  have h' : EncS (wr.alloc (.cells #[.int .i64 a.p, .int .i64 a.c, .int .i64 a.s, .int .i64 a.r, .slice ko a.ks.length kc, .slice io a.is.length ic, .slice mo a.ms.length mc] 85)) (wr.alloc (.cells #[.int .i64 a.p, .int .i64 a.c, .int .i64 a.s, .int .i64 a.r, .slice ko a.ks.length kc, .slice io a.is.length ic, .slice mo a.ms.length mc] 85)) vb zs := ⟨h.1.g gf, G.refl _⟩
  have l1 : (zs ++ [a.p, a.c, a.s, a.r].flatMap eI).length = zs.length + ([a.p, a.c, a.s, a.r].flatMap eI).length := List.length_append
  have l2 : (zs ++ [a.p, a.c, a.s, a.r].flatMap eI ++ eL eB a.ks).length = zs.length + ([a.p, a.c, a.s, a.r].flatMap eI).length + (eL eB a.ks).length := by rw [List.length_append, l1]
  have l3 : (zs ++ [a.p, a.c, a.s, a.r].flatMap eI ++ eL eB a.ks ++ eL eIn a.is).length = zs.length + ([a.p, a.c, a.s, a.r].flatMap eI).length + (eL eB a.ks).length + (eL eIn a.is).length := by rw [List.length_append, l2]
  refine ⟨zs ++ [a.p, a.c, a.s, a.r].flatMap eI, zs ++ [a.p, a.c, a.s, a.r].flatMap eI ++ eL eB a.ks, zs ++ [a.p, a.c, a.s, a.r].flatMap eI ++ eL eB a.ks ++ eL eIn a.is, ⟨FX, ?_, ?_, ?_, ?_, ?_, ?_, ?_, ?_, k5, k6⟩⟩
  · have C := st_ints (x := (wr.alloc (.cells #[.int .i64 a.p, .int .i64 a.c, .int .i64 a.s, .int .i64 a.r, .slice ko a.ks.length kc, .slice io a.is.length ic, .slice mo a.ms.length mc] 85))) [a.p, a.c, a.s, a.r] h' (G.refl _) (by simp; exact ⟨o1, o2, o3, o4⟩) (by simp) (by omega)
    rw [World.size_alloc] at C
    exact C
  · intro x v hx
    exact st_bools hx r1 (gw.trans (h.2.trans gf)) (by omega)
  · intro x v hx
    exact st_many eIn a.is _ hx k5 (by omega)
  · intro j x v hj hx
    obtain ⟨b, off, i, cs, e, ha, ecs, hcs⟩ := row_get r2 hj
    have ecs : cs = [.int .i64 i.op, .int .i64 i.a, .int .i64 i.b, .int .i64 i.c, .int .i64 i.d] := ecs
    subst ecs
    have oi := o6.2 i (List.mem_of_getElem? ha)
    have g := (FX x hx.2).1
    have C := st_el_ints eIn a.is (x := x.alloc (.cells #[.int .i64 i.op, .int .i64 i.a, .int .i64 i.b, .int .i64 i.c, .int .i64 i.d] 97)) _ j i [i.op, i.a, i.b, i.c, i.d] hx (G.alloc x _) rfl ha (by simp [eIn]) (by simp; exact oi) (by simp) (by omega)
    rw [World.size_alloc] at C
    exact ⟨b, off, i, e, hcs x g 0 _ rfl, hcs x g 1 _ rfl, hcs x g 2 _ rfl, hcs x g 3 _ rfl, hcs x g 4 _ rfl, C⟩
  · exact st_fin eIn a.is _ _ rfl
  · intro x v hx
    exact st_many eU a.ms _ hx k6 (by omega)
  · intro j x v hj hx
    obtain ⟨b, off, u, cs, e, ha, ecs, hcs⟩ := row_get r3 hj
    have ecs : cs = [.int .u64 (u : Int)] := ecs
    subst ecs
    have h0 := hcs x (FX x hx.2).1 0 _ rfl
    change x.cell? ⟨b, off + j * 1, none⟩ = _ at h0
    rw [Nat.mul_one] at h0
    exact ⟨b, off, u, e, h0, st_el_put eU a.ms _ j u u hx rfl ha rfl (o7.2 u (List.mem_of_getElem? ha)) (by omega)⟩
  · intro x v hx
    rw [st_fin eU a.ms _ _ rfl] at hx
    have e : zs ++ [a.p, a.c, a.s, a.r].flatMap eI ++ eL eB a.ks ++ eL eIn a.is ++ eL eU a.ms = zs ++ eFn a := by simp [eFn]
    rw [e] at hx
    exact ⟨hx.1, h.2.trans (gf.trans hx.2)⟩


set_option maxHeartbeats 4000000 in
theorem renc (w : World) (v : Value) (m : Md) (hm : ModAt w v m) (ho : oMd m) (hn : (encM m).length ≤ 10000000) :
    Calls Tryd.prog 10 #[v] w (BTo w (encM m)) := by
  obtain ⟨so, sc, go, gc, co, cc, ao, ac, fo, fc, rfl, r1, r2, r3, r4, r5⟩ := hm
  obtain ⟨o1, o2, o3, o4, o5, o6⟩ := ho
  have hlen : (encM m).length = fst4.length + (eL eSp m.sh).length + (eL eB m.gl).length + (eL eI m.co).length + (eL eCa m.ca).length + (eL eFn m.fn).length + (eI m.main).length := by simp [encM, eMd]; omega
  obtain ⟨Z1, hZ1⟩ : ∃ Z, Z = fst4 ++ eL eSp m.sh := ⟨_, rfl⟩
  obtain ⟨Z2, hZ2⟩ : ∃ Z, Z = Z1 ++ eL eB m.gl := ⟨_, rfl⟩
  obtain ⟨Z3, hZ3⟩ : ∃ Z, Z = Z2 ++ eL eI m.co := ⟨_, rfl⟩
  obtain ⟨Z4, hZ4⟩ : ∃ Z, Z = Z3 ++ eL eCa m.ca := ⟨_, rfl⟩
  obtain ⟨Z5, hZ5⟩ : ∃ Z, Z = Z4 ++ eL eFn m.fn := ⟨_, rfl⟩
  have hZ6 : encM m = Z5 ++ eI m.main := by rw [hZ5, hZ4, hZ3, hZ2, hZ1]; simp [encM, eMd]
  have l1 : Z1.length = fst4.length + (eL eSp m.sh).length := by rw [hZ1, List.length_append]
  have l2 : Z2.length = Z1.length + (eL eB m.gl).length := by rw [hZ2, List.length_append]
  have l3 : Z3.length = Z2.length + (eL eI m.co).length := by rw [hZ3, List.length_append]
  have l4 : Z4.length = Z3.length + (eL eCa m.ca).length := by rw [hZ4, List.length_append]
  have l5 : Z5.length = Z4.length + (eL eFn m.fn).length := by rw [hZ5, List.length_append]
  obtain ⟨W0, hW0⟩ : ∃ W, W = ((w.alloc (.cells #[.slice so m.sh.length sc, .slice go m.gl.length gc, .slice co m.co.length cc, .slice ao m.ca.length ac, .slice fo m.fn.length fc, .int .i64 m.main] 37)).alloc (.cells #[.int .u8 71, .int .u8 79, .int .u8 76, .int .u8 49] 5 (4, 5))) := ⟨_, rfl⟩
  have e1 : W0.heap[w.heap.size + 1]? = some (.cells #[.int .u8 71, .int .u8 79, .int .u8 76, .int .u8 49] 5 (4, 5)) := by
    have := heap_alloc_new (w.alloc (.cells #[.slice so m.sh.length sc, .slice go m.gl.length gc, .slice co m.co.length cc, .slice ao m.ca.length ac, .slice fo m.fn.length fc, .int .i64 m.main] 37)) (.cells #[.int .u8 71, .int .u8 79, .int .u8 76, .int .u8 49] 5 (4, 5))
    rw [World.size_alloc, ← hW0] at this
    exact this
  have B0 : EncS W0 W0 (.slice (some ⟨w.heap.size + 1, 0, none⟩) 4 4) fst4 := by
    refine ⟨⟨_, _, _, rfl, Nat.le_refl _, (fun e => by cases e), rfl, fst_byt, Or.inr ⟨w.heap.size + 1, 0, rfl, fun i hi => ?_⟩⟩, G.refl _⟩
    rw [Nat.zero_add, cell_of_row _ _ i _ _ _ e1]
    match i, hi with
    | 0, _ => rfl
    | 1, _ => rfl
    | 2, _ => rfl
    | 3, _ => rfl
  have gw0 : G w W0 := by rw [hW0]; exact ((G.refl w).more _).more _
  have BX : Hid (∀ x, G W0 x → G w x ∧ x.cell? ⟨w.heap.size, 0, none⟩ = some (.slice so m.sh.length sc) ∧ x.cell? ⟨w.heap.size, 1, none⟩ = some (.slice go m.gl.length gc) ∧ x.cell? ⟨w.heap.size, 2, none⟩ = some (.slice co m.co.length cc) ∧ x.cell? ⟨w.heap.size, 3, none⟩ = some (.slice ao m.ca.length ac) ∧ x.cell? ⟨w.heap.size, 4, none⟩ = some (.slice fo m.fn.length fc) ∧ x.cell? ⟨w.heap.size, 5, none⟩ = some (.int .i64 m.main)) := hide fun x gx => ⟨gw0.trans gx, gx.cell (by rw [hW0]; simp [go_sem]), gx.cell (by rw [hW0]; simp [go_sem]), gx.cell (by rw [hW0]; simp [go_sem]), gx.cell (by rw [hW0]; simp [go_sem]), gx.cell (by rw [hW0]; simp [go_sem]), gx.cell (by rw [hW0]; simp [go_sem])⟩
  have n1 : m.sh.length ≤ 10000000 := by have := flat_len cSp m.sh o1.2; unfold eL at hlen; simp only [List.length_append] at hlen; omega
  have n3 : m.co.length ≤ 10000000 := by have := flat_len cI m.co o3.2; unfold eL at hlen; simp only [List.length_append] at hlen; omega
  have n4 : m.ca.length ≤ 10000000 := by have := flat_len cCa m.ca o4.2; unfold eL at hlen; simp only [List.length_append] at hlen; omega
  have n5 : m.fn.length ≤ 10000000 := by have := flat_len cFn m.fn o5.2; unfold eL at hlen; simp only [List.length_append] at hlen; omega
  have hcv := Lib.run_convert_bytes_const (P := Tryd.prog) (w.alloc (.cells #[.slice so m.sh.length sc, .slice go m.gl.length gc, .slice co m.co.length cc, .slice ao m.ca.length ac, .slice fo m.fn.length fc, .int .i64 m.main] 37)) 31 5 #[.int .u8 71, .int .u8 79, .int .u8 76, .int .u8 49] 4 4 Tryd.underlying31 Tryd.underlying5
  rw [World.size_alloc] at hcv
  have hC0 : W0.cell? ⟨w.heap.size, 0, none⟩ = some (.slice so m.sh.length sc) := (unhide BX W0 (G.refl _)).2.1

  -- shapes
  have M1 := hide (rmany W0 _ fst4 m.sh.length B0.1 n1 (by simp [fst4]))
  have S1 : Hid (∀ (k : Nat) (wr : World) (vb : Value), k < m.sh.length → EncS W0 wr vb (fst4 ++ (eU m.sh.length ++ (m.sh.take k).flatMap eSp)) → ∃ (b off : Nat) (a : Sp), so = some ⟨b, off, none⟩ ∧ wr.cell? ⟨b, off + k * 3, none⟩ = some (.int .i64 a.k) ∧ wr.cell? ⟨b, off + k * 3 + 1, none⟩ = some (.int .i64 a.f) ∧
      (∀ x, G wr x → x.heap.size = wr.heap.size → Calls Tryd.prog 33 #[vb, .slice (some ⟨wr.heap.size, 0, none⟩) 2 2] (x.alloc (.cells #[.int .i64 a.k, .int .i64 a.f] 3)) fun e w2 => ∃ v2, e = .returned v2 ∧ G wr w2 ∧ w2.cell? ⟨w.heap.size, 0, none⟩ = some (.slice so m.sh.length sc) ∧ w2.cell? ⟨b, off + k * 3 + 2, none⟩ = some (.int .u64 (a.m : Int)) ∧
        Hid (Calls Tryd.prog 34 #[v2, .int .u64 (a.m : Int)] w2 fun e w3 => ∃ v3, e = .returned v3 ∧ EncS W0 w3 v3 (fst4 ++ (eU m.sh.length ++ (m.sh.take (k + 1)).flatMap eSp))))) := hide fun k wr vb hk HW => by
    obtain ⟨b, off, a, cs, e, ha, ecs, hcs⟩ := row_get r1 hk
    have ecs : cs = [.int .i64 a.k, .int .i64 a.f, .int .u64 (a.m : Int)] := ecs
    subst ecs
    have gwr := (unhide BX wr HW.2).1
    have oa := o1.2 a (List.mem_of_getElem? ha)
    have hbd := take_bound eSp m.sh k _ a fst4 rfl ha (by omega)
    have hea : (eSp a).length = ([a.k, a.f].flatMap eI).length + (eU a.m).length := by simp [eSp]; omega
    refine ⟨b, off, a, e, hcs wr gwr 0 _ rfl, hcs wr gwr 1 _ rfl, fun x gx hx => ?_⟩
    rw [← hx]
    refine (ints_new x vb _ [a.k, a.f] (HW.1.g gx) (by simp; exact ⟨oa.1, oa.2.1⟩) (by simp) (by omega)).mono ?_
    rintro e w2 ⟨v2, rfl, F, g⟩
    have g2 := HW.2.trans (gx.trans g)
    refine ⟨v2, rfl, gx.trans g, (unhide BX w2 g2).2.1, hcs w2 (unhide BX w2 g2).1 2 _ rfl, hide ?_⟩
    refine (rp w2 v2 _ a.m F oa.2.2 (by rw [List.length_append]; omega)).mono ?_
    rintro e w3 ⟨v3, rfl, F3, g3⟩
    refine ⟨v3, rfl, ?_, g2.trans g3⟩
    rw [← take_snoc eSp m.sh k m.sh.length a fst4 ha]
    have : fst4 ++ (eU m.sh.length ++ List.flatMap eSp (List.take k m.sh)) ++ List.flatMap eI [a.k, a.f] ++ eU a.m = fst4 ++ (eU m.sh.length ++ List.flatMap eSp (List.take k m.sh)) ++ eSp a := by simp [eSp]
    rw [← this]
    exact F3
  have T1 : Hid (∀ w1 v1, BB w1 v1 (fst4 ++ eU m.sh.length) → BB w1 v1 (fst4 ++ (eU m.sh.length ++ (m.sh.take 0).flatMap eSp))) := hide fun w1 v1 h => by simpa using h
  have Q1 : Hid (fst4 ++ (eU m.sh.length ++ (m.sh.take m.sh.length).flatMap eSp) = Z1) := hide (by rw [hZ1]; unfold eL; rw [List.take_of_length_le (Nat.le_refl _)])

  have M2 : Hid (∀ wr vb, EncS W0 wr vb Z1 → wr.cell? ⟨w.heap.size, 1, none⟩ = some (.slice go m.gl.length gc) ∧ Calls Tryd.prog 35 #[vb, .slice go m.gl.length gc] wr (ETo W0 Z2)) := hide fun wr vb h => ⟨(unhide BX wr h.2).2.2.1, by rw [hZ2]; exact st_bools h r2 gw0 (by omega)⟩
  have M3 : Hid (∀ wr vb, EncS W0 wr vb Z2 → wr.cell? ⟨w.heap.size, 2, none⟩ = some (.slice co m.co.length cc) ∧ Calls Tryd.prog 32 #[vb, .int .i64 (m.co.length : Int)] wr (ETo W0 (Z2 ++ (eU m.co.length ++ (m.co.take 0).flatMap eI)))) := hide fun wr vb h => ⟨(unhide BX wr h.2).2.2.2.1, st_many eI m.co _ h n3 (by omega)⟩
  have S3 : Hid (∀ (k : Nat) (wr : World) (vb : Value), k < m.co.length → EncS W0 wr vb (Z2 ++ (eU m.co.length ++ (m.co.take k).flatMap eI)) → ∃ (b off : Nat) (a : Int), co = some ⟨b, off, none⟩ ∧ wr.cell? ⟨b, off + k, none⟩ = some (.int .i64 a) ∧ Calls Tryd.prog 36 #[.int .i64 a] wr (fun e w' => e = .returned (.int .u64 (zg a : Int)) ∧ w' = wr) ∧
      Calls Tryd.prog 34 #[vb, .int .u64 (zg a : Int)] wr (ETo W0 (Z2 ++ (eU m.co.length ++ (m.co.take (k + 1)).flatMap eI)))) := hide fun k wr vb hk HW => by
    obtain ⟨b, off, a, cs, e, ha, ecs, hcs⟩ := row_get r3 hk
    have ecs : cs = [.int .i64 a] := ecs
    subst ecs
    have oa := o3.2 a (List.mem_of_getElem? ha)
    have h0 := hcs wr (unhide BX wr HW.2).1 0 _ rfl
    change wr.cell? ⟨b, off + k * 1, none⟩ = _ at h0
    rw [Nat.mul_one] at h0
    exact ⟨b, off, a, e, h0, rzig_all a oa wr, st_el_put eI m.co _ k a _ HW rfl ha rfl (oU_zg oa) (by omega)⟩
  have Q3 : Hid (Z2 ++ (eU m.co.length ++ (m.co.take m.co.length).flatMap eI) = Z3) := hide (by rw [hZ3]; exact st_fin eI m.co _ Z2 rfl)
  have M4 : Hid (∀ wr vb, EncS W0 wr vb Z3 → wr.cell? ⟨w.heap.size, 3, none⟩ = some (.slice ao m.ca.length ac) ∧ Calls Tryd.prog 32 #[vb, .int .i64 (m.ca.length : Int)] wr (ETo W0 (Z3 ++ (eU m.ca.length ++ (m.ca.take 0).flatMap eCa)))) := hide fun wr vb h => ⟨(unhide BX wr h.2).2.2.2.2.1, st_many eCa m.ca _ h n4 (by omega)⟩
  have S4 : Hid (∀ (k : Nat) (wr : World) (vb : Value), k < m.ca.length → EncS W0 wr vb (Z3 ++ (eU m.ca.length ++ (m.ca.take k).flatMap eCa)) → ∃ (b off : Nat) (a : Ca), ao = some ⟨b, off, none⟩ ∧ wr.cell? ⟨b, off + k * 4, none⟩ = some (.int .i64 a.k) ∧ wr.cell? ⟨b, off + k * 4 + 1, none⟩ = some (.int .i64 a.c) ∧ wr.cell? ⟨b, off + k * 4 + 2, none⟩ = some (.int .i64 a.v) ∧ wr.cell? ⟨b, off + k * 4 + 3, none⟩ = some (.int .i64 a.t) ∧
      Calls Tryd.prog 33 #[vb, .slice (some ⟨wr.heap.size + 1, 0, none⟩) 4 4] ((wr.alloc (.cells #[.int .i64 a.k, .int .i64 a.c, .int .i64 a.v, .int .i64 a.t] 82)).alloc (.cells #[.int .i64 a.k, .int .i64 a.c, .int .i64 a.v, .int .i64 a.t] 3)) (ETo W0 (Z3 ++ (eU m.ca.length ++ (m.ca.take (k + 1)).flatMap eCa)))) := hide fun k wr vb hk HW => by
    obtain ⟨b, off, a, cs, e, ha, ecs, hcs⟩ := row_get r4 hk
    have ecs : cs = [.int .i64 a.k, .int .i64 a.c, .int .i64 a.v, .int .i64 a.t] := ecs
    subst ecs
    have oa := o4.2 a (List.mem_of_getElem? ha)
    have gw := (unhide BX wr HW.2).1
    have C := st_el_ints eCa m.ca (x := wr.alloc (.cells #[.int .i64 a.k, .int .i64 a.c, .int .i64 a.v, .int .i64 a.t] 82)) _ k a [a.k, a.c, a.v, a.t] HW (G.alloc wr _) rfl ha (by simp [eCa]) (by simp; exact oa) (by simp) (by omega)
    rw [World.size_alloc] at C
    exact ⟨b, off, a, e, hcs wr gw 0 _ rfl, hcs wr gw 1 _ rfl, hcs wr gw 2 _ rfl, hcs wr gw 3 _ rfl, C⟩
  have Q4 : Hid (Z3 ++ (eU m.ca.length ++ (m.ca.take m.ca.length).flatMap eCa) = Z4) := hide (by rw [hZ4]; exact st_fin eCa m.ca _ Z3 rfl)
  have M5 : Hid (∀ wr vb, EncS W0 wr vb Z4 → wr.cell? ⟨w.heap.size, 4, none⟩ = some (.slice fo m.fn.length fc) ∧ Calls Tryd.prog 32 #[vb, .int .i64 (m.fn.length : Int)] wr (ETo W0 (Z4 ++ (eU m.fn.length ++ (m.fn.take 0).flatMap eFn)))) := hide fun wr vb h => ⟨(unhide BX wr h.2).2.2.2.2.2.1, st_many eFn m.fn _ h n5 (by omega)⟩

  have S5 : Hid (∀ (k : Nat) (wr : World) (vb : Value), k < m.fn.length → EncS W0 wr vb (Z4 ++ (eU m.fn.length ++ (m.fn.take k).flatMap eFn)) → ∃ (b off : Nat) (a : Fn) (ko : Option Addr) (kc : Nat) (io : Option Addr) (ic : Nat) (mo : Option Addr) (mc : Nat) (Y1 Y2 Y3 : List Int), fo = some ⟨b, off, none⟩ ∧ wr.cell? ⟨b, off + k * 7, none⟩ = some (.int .i64 a.p) ∧ wr.cell? ⟨b, off + k * 7 + 1, none⟩ = some (.int .i64 a.c) ∧ wr.cell? ⟨b, off + k * 7 + 2, none⟩ = some (.int .i64 a.s) ∧ wr.cell? ⟨b, off + k * 7 + 3, none⟩ = some (.int .i64 a.r) ∧ wr.cell? ⟨b, off + k * 7 + 4, none⟩ = some (.slice ko a.ks.length kc) ∧ wr.cell? ⟨b, off + k * 7 + 5, none⟩ = some (.slice io a.is.length ic) ∧ wr.cell? ⟨b, off + k * 7 + 6, none⟩ = some (.slice mo a.ms.length mc) ∧
      FnStep w W0 wr vb a ko kc io ic mo mc (Z4 ++ (eU m.fn.length ++ (m.fn.take (k + 1)).flatMap eFn)) Y1 Y2 Y3) := hide fun k wr vb hk HW => by
    obtain ⟨b, off, a, cs, e, ha, ecs, hcs⟩ := row_get r5 hk
    obtain ⟨ko, kc, io, ic, mo, mc, rfl, q1, q2, q3⟩ := ecs
    have g := (unhide BX wr HW.2).1
    obtain ⟨Y1, Y2, Y3, F⟩ := fn_step gw0 HW (o5.2 a (List.mem_of_getElem? ha)) q1 q2 q3 (take_bound eFn m.fn k _ a Z4 rfl ha (by omega))
    rw [take_snoc eFn m.fn k _ a Z4 ha] at F
    exact ⟨b, off, a, ko, kc, io, ic, mo, mc, Y1, Y2, Y3, e, hcs wr g 0 _ rfl, hcs wr g 1 _ rfl, hcs wr g 2 _ rfl, hcs wr g 3 _ rfl, hcs wr g 4 _ rfl, hcs wr g 5 _ rfl, hcs wr g 6 _ rfl, F⟩
  have Q5 : Hid (Z4 ++ (eU m.fn.length ++ (m.fn.take m.fn.length).flatMap eFn) = Z5) := hide (by rw [hZ5]; exact st_fin eFn m.fn _ Z4 rfl)
  have M6 : Hid (∀ wr vb, EncS W0 wr vb Z5 → G w wr ∧ wr.cell? ⟨w.heap.size, 5, none⟩ = some (.int .i64 m.main) ∧ Calls Tryd.prog 33 #[vb, .slice (some ⟨wr.heap.size, 0, none⟩) 1 1] (wr.alloc (.cells #[.int .i64 m.main] 3)) (ETo W0 (encM m))) := hide fun wr vb h => ⟨(unhide BX wr h.2).1, (unhide BX wr h.2).2.2.2.2.2.2, by
    rw [hZ6]
    have C := st_ints (x := wr) [m.main] h (G.refl _) (by simp; exact o6) (by simp) (by simp; omega)
    simpa using C⟩
  have MF : Hid (∀ x v, EncS W0 x v (encM m) → BB x v (encM m) ∧ G w x) := hide fun x v h => ⟨h.1, (unhide BX x h.2).1⟩

  have HZ := hide (show _ ∧ _ ∧ _ ∧ _ ∧ _ from ⟨hZ2, hZ3, hZ4, hZ5, hZ6⟩)
  clear r1 hZ1 hZ2 hZ3 hZ4 hZ5 hZ6 hlen l1 l2 l3 l4 l5
  go_enter Tryd.func10, Tryd.ntmps10
  go_upto_region 2 with fail
  rw [← hW0]
  clear hcv hW0 gw0 e1
  go_wp2_with fail
  refine (unhide M1).mono ?_
  rintro e w1 ⟨v1, rfl, F1, g1⟩
  have H1 := hide (⟨unhide T1 _ _ F1, g1⟩ : EncS W0 _ _ _)
  clear M1 F1 g1 T1 hC0
  go_wp2_with fail
  go_loopw [3, 4] (fun vb i wr => ∃ k : Nat, k ≤ m.sh.length ∧ i = .int .i64 k ∧ Hid (EncS W0 wr vb (fst4 ++ (eU m.sh.length ++ (m.sh.take k).flatMap eSp)))) (fun _ i _ => m.sh.length - (intOf i).toNat)
  case atStart => exact ⟨0, Nat.zero_le _, rfl, H1⟩
  case round =>
    obtain ⟨k, hk, rfl, HW⟩ := hrel
    have hC := (unhide BX wr (unhide HW).2).2.1
    by_cases hlt : k < m.sh.length
    · obtain ⟨b, off, a, rfl, hc0, hc1, C⟩ := unhide S1 k wr _ hlt (unhide HW)
      replace C := hide (C _ ((G.refl wr).drew) rfl)
      have KP : Hid (∀ x, G wr x → G wr x ∧ x.cell? ⟨w.heap.size, 0, none⟩ = some (.slice (some ⟨b, off, none⟩) m.sh.length sc) ∧ x.cell? ⟨b, off + k * 3, none⟩ = some (.int .i64 a.k) ∧ x.cell? ⟨b, off + k * 3 + 1, none⟩ = some (.int .i64 a.f)) := hide fun x g => ⟨g, g.cell hC, g.cell hc0, g.cell hc1⟩
      have hk0 : (0 : Int) ≤ (k : Int) := by omega
      have hkn : (k : Int) < (m.sh.length : Int) := by omega
      clear HW S1 Q1 HZ H1
      go_wp2_with fail
      go_region_held3 (fun x => G wr x ∧ x.cell? ⟨w.heap.size, 0, none⟩ = some (.slice (some ⟨b, off, none⟩) m.sh.length sc) ∧ x.cell? ⟨b, off + k * 3, none⟩ = some (.int .i64 a.k) ∧ x.cell? ⟨b, off + k * 3 + 1, none⟩ = some (.int .i64 a.f))
        (first | assumption | exact unhide KP _ ((G.refl wr).drew) | exact unhide KP _ (((G.refl wr).drew).more _) | exact unhide KP _ (by assumption))
        ((first
          | (go_at_call 33; refine (unhide C).mono ?_; rintro e w2 ⟨v2, rfl, gwr2, hC2, hc2, D⟩)))
      clear C hC hc0 hc1
      go_wp2_with fail
      refine (unhide D).mono ?_
      rintro e w3 ⟨v3, rfl, F⟩
      replace F := hide F
      clear D hC2 hc2
      go_wp2_with fail
      go_roundw
      case rel => exact ⟨k + 1, by omega, by go_num, F⟩
      case measure => simp [intOf]; omega
    · obtain rfl : k = m.sh.length := by omega
      rw [unhide Q1] at HW
      clear S1 Q1 H1
      have hC1 := unhide M2 wr _ (unhide HW)
      obtain ⟨hC1, C⟩ := hC1
      replace C := hide C
      clear HW M2
      go_wp2_with fail
      refine (unhide C).mono ?_
      rintro e w2 ⟨v2, rfl, F⟩
      clear C hC1 hC
      obtain ⟨hC, C⟩ := unhide M3 w2 v2 F
      replace C := hide C
      clear F M3
      go_wp2_with fail
      refine (unhide C).mono ?_
      rintro e w3 ⟨v3, rfl, F⟩
      have H1 := hide F
      clear C hC F
      go_wp2_with fail
      go_loopw [3, 5] (fun vb i wr => ∃ k : Nat, k ≤ m.co.length ∧ i = .int .i64 k ∧ Hid (EncS W0 wr vb (Z2 ++ (eU m.co.length ++ (m.co.take k).flatMap eI)))) (fun _ i _ => m.co.length - (intOf i).toNat)
      case atStart => exact ⟨0, Nat.zero_le _, rfl, H1⟩
      case round =>
        obtain ⟨k, hk, rfl, HW⟩ := hrel
        have hC := (unhide BX wr (unhide HW).2).2.2.2.1
        by_cases hlt : k < m.co.length
        · obtain ⟨b, off, a, rfl, hc0, Z, C⟩ := unhide S3 k wr _ hlt (unhide HW)
          replace C := hide C
          replace Z := hide Z
          clear HW S3 Q3 HZ H1 M4 S4 Q4 M5 S5 Q5 M6 MF
          go_wp2_with fail
          refine (unhide Z).mono ?_
          rintro e w4 ⟨rfl, rfl⟩
          go_wp2_with fail
          refine (unhide C).mono ?_
          rintro e w4 ⟨v4, rfl, F⟩
          replace F := hide F
          clear C Z hC hc0
          go_wp2_with fail
          go_roundw
          case rel => exact ⟨k + 1, by omega, by go_num, F⟩
          case measure => simp [intOf]; omega
        · obtain rfl : k = m.co.length := by omega
          rw [unhide Q3] at HW
          clear S3 Q3 H1
          obtain ⟨hC3, C⟩ := unhide M4 wr _ (unhide HW)
          replace C := hide C
          clear HW M4
          go_wp2_with fail
          refine (unhide C).mono ?_
          rintro e w4 ⟨v4, rfl, F⟩
          have H1 := hide F
          clear C hC F hC3
          go_wp2_with fail
          go_loopw [3, 6] (fun vb i wr => ∃ k : Nat, k ≤ m.ca.length ∧ i = .int .i64 k ∧ Hid (EncS W0 wr vb (Z3 ++ (eU m.ca.length ++ (m.ca.take k).flatMap eCa)))) (fun _ i _ => m.ca.length - (intOf i).toNat)
          case atStart => exact ⟨0, Nat.zero_le _, rfl, H1⟩
          case round =>
            obtain ⟨k, hk, rfl, HW⟩ := hrel
            have hC := (unhide BX wr (unhide HW).2).2.2.2.2.1
            by_cases hlt : k < m.ca.length
            · obtain ⟨b, off, a, rfl, hc0, hc1, hc2, hc3, C⟩ := unhide S4 k wr _ hlt (unhide HW)
              replace C := hide C
              clear HW S4 Q4 HZ H1 M5 S5 Q5 M6 MF
              go_wp2_with fail
              refine (unhide C).mono ?_
              rintro e w5 ⟨v5, rfl, F⟩
              replace F := hide F
              clear C hC hc0 hc1 hc2 hc3
              go_wp2_with fail
              go_roundw
              case rel => exact ⟨k + 1, by omega, by go_num, F⟩
              case measure => simp [intOf]; omega
            · obtain rfl : k = m.ca.length := by omega
              rw [unhide Q4] at HW
              clear S4 Q4 H1
              obtain ⟨hC4, C⟩ := unhide M5 wr _ (unhide HW)
              replace C := hide C
              clear HW M5
              go_wp2_with fail
              refine (unhide C).mono ?_
              rintro e w5 ⟨v5, rfl, F⟩
              have H1 := hide F
              clear C hC F hC4
              go_wp2_with fail
              go_loopw [3, 8] (fun vb i wr => ∃ k : Nat, k ≤ m.fn.length ∧ i = .int .i64 k ∧ Hid (EncS W0 wr vb (Z4 ++ (eU m.fn.length ++ (m.fn.take k).flatMap eFn)))) (fun _ i _ => m.fn.length - (intOf i).toNat)
              case atStart => exact ⟨0, Nat.zero_le _, rfl, H1⟩
              case round =>
                obtain ⟨k, hk, rfl, HW⟩ := hrel
                have hC := (unhide BX wr (unhide HW).2).2.2.2.2.2.1
                by_cases hlt : k < m.fn.length
                · obtain ⟨b, off, a, ko, kc, io, ic, mo, mc, Y1, Y2, Y3, rfl, hc0, hc1, hc2, hc3, hc4, hc5, hc6, F⟩ := unhide S5 k wr _ hlt (unhide HW)
                  have C := hide F.n1
                  have k5 := F.k5
                  have k6 := F.k6
                  replace F := hide F
                  clear HW S5 Q5 HZ H1 M6 MF
                  go_wp2_with fail
                  refine (unhide C).mono ?_
                  rintro e x1 ⟨v1, rfl, E⟩
                  clear C hC hc0 hc1 hc2 hc3 hc4 hc5 hc6
                  have hC := ((unhide F).fx x1 E.2).2.2.1
                  have C := hide ((unhide F).n2 x1 v1 E)
                  clear E
                  go_wp2_with fail
                  refine (unhide C).mono ?_
                  rintro e x2 ⟨v2, rfl, E⟩
                  clear C hC
                  have hC := ((unhide F).fx x2 E.2).2.2.2.1
                  have C := hide ((unhide F).n3 x2 v2 E)
                  clear E
                  go_wp2_with fail
                  refine (unhide C).mono ?_
                  rintro e x3 ⟨v3, rfl, E⟩
                  clear C hC
                  have H2 := hide E
                  clear E
                  go_wp2_with fail
                  obtain ⟨EF, HEF⟩ : ∃ EF : World → Value → List Int → Prop, Hid (∀ x v zs, EF x v zs ↔ EncS (wr.alloc (.cells #[.int .i64 a.p, .int .i64 a.c, .int .i64 a.s, .int .i64 a.r, .slice ko a.ks.length kc, .slice io a.is.length ic, .slice mo a.ms.length mc] 85)) x v zs) := ⟨_, hide fun _ _ _ => Iff.rfl⟩
                  replace H2 := hide ((unhide HEF _ _ _).2 (unhide H2))
                  go_loopw [3, 10] (fun vb i wx => ∃ j : Nat, j ≤ a.is.length ∧ i = .int .i64 j ∧ Hid (EF wx vb (Y2 ++ (eU a.is.length ++ (a.is.take j).flatMap eIn)))) (fun _ i _ => a.is.length - (intOf i).toNat)
                  case atStart => exact ⟨0, Nat.zero_le _, rfl, H2⟩
                  case round =>
                    obtain ⟨j, hj, rfl, HX⟩ := hrel
                    have E := (unhide HEF _ _ _).1 (unhide HX)
                    have hC := ((unhide F).fx _ E.2).2.2.2.1
                    by_cases hjl : j < a.is.length
                    · obtain ⟨b2, off2, i, rfl, hi0, hi1, hi2, hi3, hi4, C⟩ := (unhide F).n4 j _ _ hjl E
                      replace C := hide C
                      clear E HX H2
                      go_wp2_with fail
                      refine (unhide C).mono ?_
                      rintro e x5 ⟨v5, rfl, E⟩
                      have HE := hide ((unhide HEF _ _ _).2 E)
                      clear C E hC hi0 hi1 hi2 hi3 hi4
                      go_wp2_with fail
                      go_roundw
                      case rel => exact ⟨j + 1, by omega, by go_num, HE⟩
                      case measure => simp [intOf]; omega
                    · obtain rfl : j = a.is.length := by omega
                      rw [(unhide F).q4] at E
                      have hC6 := ((unhide F).fx _ E.2).2.2.2.2
                      have C := hide ((unhide F).n5 _ _ E)
                      clear E HX H2
                      go_wp2_with fail
                      refine (unhide C).mono ?_
                      rintro e x4 ⟨v4, rfl, E⟩
                      have H2 := hide ((unhide HEF _ _ _).2 E)
                      clear C E hC hC6
                      go_wp2_with fail
                      go_loopw [3, 12] (fun vb i wx => ∃ j : Nat, j ≤ a.ms.length ∧ i = .int .i64 j ∧ Hid (EF wx vb (Y3 ++ (eU a.ms.length ++ (a.ms.take j).flatMap eU)))) (fun _ i _ => a.ms.length - (intOf i).toNat)
                      case atStart => exact ⟨0, Nat.zero_le _, rfl, H2⟩
                      case round =>
                        obtain ⟨j, hj, rfl, HX⟩ := hrel
                        have E := (unhide HEF _ _ _).1 (unhide HX)
                        have hC := ((unhide F).fx _ E.2).2.2.2.2
                        by_cases hjl : j < a.ms.length
                        · obtain ⟨b2, off2, u, rfl, hi0, C⟩ := (unhide F).n6 j _ _ hjl E
                          replace C := hide C
                          clear E HX H2
                          go_wp2_with fail
                          refine (unhide C).mono ?_
                          rintro e x5 ⟨v5, rfl, E⟩
                          have HE := hide ((unhide HEF _ _ _).2 E)
                          clear C E hC hi0
                          go_wp2_with fail
                          go_roundw
                          case rel => exact ⟨j + 1, by omega, by go_num, HE⟩
                          case measure => simp [intOf]; omega
                        · obtain rfl : j = a.ms.length := by omega
                          have HE := hide ((unhide F).q6 _ _ E)
                          clear E HX H2
                          go_wp2_with fail
                          go_roundw
                          case rel => exact ⟨k + 1, by omega, by go_num, HE⟩
                          case measure => simp [intOf]; omega
                · obtain rfl : k = m.fn.length := by omega
                  rw [unhide Q5] at HW
                  clear S5 Q5 H1
                  obtain ⟨gz, hC5, C⟩ := unhide M6 wr _ (unhide HW)
                  replace C := hide C
                  clear HW M6 gz
                  go_wp2_with fail
                  refine (unhide C).mono ?_
                  rintro e w6 ⟨v6, rfl, F⟩
                  have H1 := hide (unhide MF _ _ F)
                  clear C F hC hC5
                  go_wp2_with fail
                  refine bodyPost_ret (by simp [results, Tryd.results10, go_sem]; try rfl) rfl ?_
                  exact ⟨_, rfl, unhide H1⟩
end Go.Proofs.YtdekhnfncecacaaDoor
