/- Here: the document's own Shade, Fields, Step, Reach. -/
import Derived.Test.YtinehimleldkdaaGreatDoorMgM
import Derived.Test.YtinehimleldkdaaGreatDoorMgT
import Derived.Test.YtinehimleldkdaaGreatDoorMgP
import Derived.Deep.RegionHeld3
/- The document's own Marker: Shade, Fields. -/
namespace Go.Proofs.YtinehimleldkdaaGreatDoor
set_option maxRecDepth 100000
open Go.ChangeShapes Go.WideShapes Go.ChangeAt Go.RowKit Go.Maps Go.Deep

section
variable {W w w' : World} {L : Lc} {e : Lx} {M M1 M2 : Ms} {N N' B : Nat} {E E' F : List Nat}
/-- The document's grey row has changed, and its variable holds it. -/
theorem MSx.gre (h : MSx W w L e M1 M2 N E) {go' : Option Addr} {gc' : Nat} {ys : List Int} (gx : Gy.Gx w w' e.go) (r : Gy.RowW w' W.heap.size go' gc' ys) (hb : ∀ d ∈ Gy.blk go', d ∈ Gy.blk e.go ∨ w.heap.size ≤ d) :
    MS W (w'.setCell ⟨L.rk, 2, none⟩ (.slice go' ys.length gc')) L M1 ⟨M2.al, M2.T, ys⟩ N E ∧ Kd w (w'.setCell ⟨L.rk, 2, none⟩ (.slice go' ys.length gc')) E := by
  have n0 := h.dm.n0
  simp at n0
  have lt2 : ∀ d ∈ L.f2 e, d < w.heap.size := fun d hd => h.lt d (mem3.2 (Or.inr (Or.inl hd)))
  have hrl : L.rk < w.heap.size := lt2 _ (by simp [Lc.f2])
  have krk : w'.heap[L.rk]? = w.heap[L.rk]? := gx.block _ hrl n0.2
  have hng : L.rk ∉ Gy.blk go' := fun hm => by
    rcases hb _ hm with e1 | e1
    · exact n0.2 e1
    · omega
  have kto : Kd w (w'.setCell ⟨L.rk, 2, none⟩ (.slice go' ys.length gc')) (Gy.blk e.to) := fun d hd => by
    rw [Below.heap_setCell _ _ _ _ (fun (e1 : d = L.rk) => n0.1 (e1 ▸ hd))]
    exact gx.block d (lt2 d (by simp [Lc.f2, hd])) (h.dm.n1 d hd)
  have q := h.two (e' := { e with go := go', gc := gc' }) (M2' := ⟨M2.al, M2.T, ys⟩) (w' := w'.setCell ⟨L.rk, 2, none⟩ (.slice go' ys.length gc'))
    ⟨gx.os, gx.tape, gx.output, by rw [World.size_setCell]; exact gx.size, fun k hk hf => by
      simp [Lc.f2] at hf
      rw [Below.heap_setCell _ _ _ _ (show k ≠ L.rk from hf.1)]
      exact gx.block k hk hf.2.2⟩
    (fun d hd => by
      simp [Lc.f2] at hd ⊢
      rcases hd with e1 | e1 | e1
      · simp [e1]
      · simp [e1]
      · rcases hb d e1 with e2 | e2
        · simp [e2]
        · exact Or.inr e2) rfl rfl
    ⟨(cell_other _ (Or.inr (by decide))).trans ((World.cell?_of_block (a := ⟨L.rk, 0, none⟩) krk).trans h.dm.c0), (cell_other _ (Or.inr (by decide))).trans ((World.cell?_of_block (a := ⟨L.rk, 1, none⟩) krk).trans h.dm.c1),
      cell_same _ ((World.cell?_of_block (a := ⟨L.rk, 2, none⟩) krk).trans h.dm.c2), fun i => by rw [World.frozen?_setCell]; exact (World.frozen?_of_block (a := ⟨L.rk, i, none⟩) krk).trans (h.dm.fz i), ownsRow_kept h.dm.row kto,
      r.kept (fun d hd => Below.heap_setCell _ _ _ _ (fun (e1 : d = L.rk) => hng (e1 ▸ hd))), by simp; exact ⟨n0.1, hng⟩, fun d hd hg => by
        rcases hb d hg with e1 | e1
        · exact h.dm.n1 d hd e1
        · have := lt2 d (by simp [Lc.f2, hd]); omega⟩
    (fun d hd => by
      have hs := gx.size
      rw [World.size_setCell]
      simp only [Lc.f2, List.mem_cons, List.mem_append] at hd
      rcases hd with e1 | e1 | e1
      · rw [e1]; omega
      · have := lt2 d (by simp [Lc.f2, e1]); omega
      · exact (r.lo d e1).2)
    (fun q => ⟨q.c0, q.c1, q.c2, q.tab, q.que, q.n0, q.n1⟩)
  exact ⟨⟨_, q.1⟩, q.2⟩

theorem app_blk {ao ao' : Option Addr} {cap : Nat} {ys : List Int} (A : Gy.App w w' B ao ao' cap ys) : ∀ d ∈ Gy.blk ao', d ∈ Gy.blk ao ∨ w.heap.size ≤ d := fun d hd => by
  rcases A.2.1 with h1 | h1
  · rw [h1] at hd; exact Or.inl hd
  · rw [h1] at hd
    simp at hd
    exact Or.inr (by omega)
set_option maxHeartbeats 1000000 in
theorem d_shade (h : Hid (MS W w L M1 M2 N E)) (hN : N ≤ 2000) (hn : M2.g.length ≤ 1000) (x : Int) :
    Calls Tryz.prog 16 #[.pointer (some ⟨L.rk, 0, none⟩), .int .i64 x] w fun r w' => r = .returned (.bool (M2.al.a.markB x)) ∧ MS W w' L M1 (M2.shade x) N E ∧ Kd w w' E := by
  obtain ⟨e, hx⟩ := unhide h
  clear h
  have c0 := hx.dm.c0
  have C := hide (br_mark' (hide hx.bo) hN x)
  cases hb : M2.al.a.markB x
  · have eM : M2.shade x = ⟨⟨M2.al.a.markA x, M2.al.u⟩, M2.T, M2.g⟩ := by unfold Ms.shade; rw [hb]; rfl
    rw [eM]
    rw [hb] at C
    have H := hide hx
    clear hx eM
    go_enter Tryz.func16, Tryz.ntmps16
    go_wp2_with fail
    refine (unhide C).mono ?_
    rintro r w1 ⟨rfl, B1, K1⟩
    have R : Hid (MS W w1 L M1 ⟨⟨M2.al.a.markA x, M2.al.u⟩, M2.T, M2.g⟩ N E ∧ Kd w w1 E) := hide ⟨⟨e, (unhide H).al B1 K1⟩, MSx.kd K1⟩
    clear B1 K1 C H
    go_wp2_with fail
    go_ret
    exact ⟨rfl, unhide R⟩
  · have eM : M2.shade x = ⟨⟨M2.al.a.markA x, M2.al.u⟩, M2.T, M2.g ++ [x]⟩ := by unfold Ms.shade; rw [hb]; rfl
    rw [eM]
    rw [hb] at C
    have H := hide hx
    clear hx eM
    go_enter Tryz.func16, Tryz.ntmps16
    go_wp2_with fail
    refine (unhide C).mono ?_
    rintro r w1 ⟨rfl, B1, K1⟩
    have X1 := (unhide H).al B1 K1
    have KE := hide (MSx.kd K1)
    obtain ⟨k, hk⟩ : ∃ k, M2.g.length = k := ⟨_, rfl⟩
    obtain ⟨k2, hk2⟩ : ∃ k2, k + 1 = k2 := ⟨_, rfl⟩
    have c2 := X1.dm.c2
    have f2 := X1.dm.fz 2
    simp only at c2
    rw [hk] at c2
    have hrl := World.block_lt_of_cell? _ _ c2
    have X2 := hide (X1.gr (G.alloc w1 (.cells #[.int .i64 x] 2)))
    have hxc : Hid ((w1.alloc (.cells #[.int .i64 x] 2)).cell? ⟨w1.heap.size, 0, none⟩ = some (.int .i64 x)) := hide (World.cell?_alloc_new _ _ _ 0)
    have KG := hide (MSx.kd (X1.bo.gr (G.alloc w1 (.cells #[.int .i64 x] 2))).2)
    replace hk := hide hk
    replace hk2 := hide hk2
    clear B1 K1 C H X1
    go_wp2_with (at_builtin; refine Gy.wpl_app rfl _ _ rfl k k2 (unhide hk) (unhide hk2) rfl (unhide X2).dm.grey (unhide X2).below.size w1.heap.size 1 x rfl (unhide hxc) (by have := unhide hk; omega) ?_; intro go4 cap4 w4 A; have n0 := (unhide X2).dm.n0; have hrk := (unhide X2).lt L.rk (by simp [Lc.f1, Lc.f2]); have kb4 := A.2.2.block L.rk hrk (by simp at n0; exact n0.2); have c4 := (World.cell?_of_block (a := ⟨L.rk, 2, none⟩) kb4).trans (unhide X2).dm.c2; have f4 := (World.frozen?_of_block (a := ⟨L.rk, 2, none⟩) kb4).trans ((unhide X2).dm.fz 2); have Z := hide ((unhide X2).gre A.2.2 A.1 (app_blk A)); clear A n0 kb4 hrk)
    go_ret
    have e2 : (M2.g ++ [x]).length = k2 := by have := unhide hk; have := unhide hk2; simp; omega
    have Z2 := unhide Z
    rw [e2] at Z2
    exact ⟨rfl, Z2.1, ((unhide KE).trans (unhide KG)).trans Z2.2⟩

/-! ### Fields -/
/-- While a row is filled. -/
structure RwS (w wr : World) (ao : Option Addr) (cap : Nat) (ys : List Int) : Prop where
  g : G w wr
  row : Gy.RowW wr w.heap.size ao cap ys
theorem RwS.gr {wr wr' : World} {ao : Option Addr} {cap : Nat} {ys : List Int} (h : RwS w wr ao cap ys) (g : G wr wr') : RwS w wr' ao cap ys :=
  ⟨h.g.trans g, h.row.kept fun d hd => g.block d (h.row.lo d hd).2⟩
theorem RwS.app {wr wr' : World} {ao ao' : Option Addr} {cap cap' : Nat} {ys ys' : List Int} (h : RwS w wr ao cap ys) (a : Gy.App wr wr' w.heap.size ao ao' cap' ys') : RwS w wr' ao' cap' ys' := by
  obtain ⟨r, _, gx⟩ := a
  exact ⟨⟨gx.os.trans h.g.os, gx.tape.trans h.g.tape, gx.output.trans h.g.output, Nat.le_trans h.g.size gx.size, fun k hk => (gx.block k (Nat.lt_of_lt_of_le hk h.g.size) fun hm => by have := (h.row.lo k hm).1; omega).trans (h.g.block k hk)⟩, r⟩

/-- What the call reads. -/
structure FdC (w : World) (rk rb g wb : Nat) (to_ : Option Addr) (tn tc n lc i nw wc : Nat) (wd : Nat → Int) (T : List Hd.Shp) : Prop where
  c0 : w.cell? ⟨rk, 0, none⟩ = some (.pointer (some ⟨rb, 0, none⟩))
  c1 : w.cell? ⟨rk, 1, none⟩ = some (.slice to_ tn tc)
  c2 : w.cell? ⟨rb, 1, none⟩ = some (.slice (some ⟨g, 0, none⟩) n lc)
  c3 : w.cell? ⟨g, i * 3 + 1, none⟩ = some (.slice (some ⟨wb, 0, none⟩) nw wc)
  cw : ∀ k, k < nw → w.cell? ⟨wb, k, none⟩ = some (.int .i64 (wd k))
  ct : ∀ (j : Nat) s, T[j]? = some s → ∃ tg, to_ = some ⟨tg, 0, none⟩ ∧ w.cell? ⟨tg, j * 3, none⟩ = some (.int .i64 s.k) ∧ w.cell? ⟨tg, j * 3 + 1, none⟩ = some (.int .i64 s.f) ∧ w.cell? ⟨tg, j * 3 + 2, none⟩ = some (.int .u64 (s.m : Int))
theorem FdC.gr {rk rb g wb : Nat} {to_ : Option Addr} {tn tc n lc i nw wc : Nat} {wd : Nat → Int} {T : List Hd.Shp} (h : FdC w rk rb g wb to_ tn tc n lc i nw wc wd T) (gg : G w w') : FdC w' rk rb g wb to_ tn tc n lc i nw wc wd T :=
  ⟨gg.cell h.c0, gg.cell h.c1, gg.cell h.c2, gg.cell h.c3, fun k hk => gg.cell (h.cw k hk), fun j s hs => by obtain ⟨tg, h0, h1, h2, h3⟩ := h.ct j s hs; exact ⟨tg, h0, gg.cell h1, gg.cell h2, gg.cell h3⟩⟩

set_option maxHeartbeats 4000000 in
/-- An object. -/
theorem d_fields_yes (w : World) (rk rb g wb : Nat) (to_ : Option Addr) (tn tc n lc i nw wc : Nat) (wd : Nat → Int) (T : List Hd.Shp) (x : Int) (m : Nat) (b2 : Int) (sn : Nat) (s : Hd.Shp) (hin : i < n) (hm1 : 1 ≤ m) (hm : m ≤ nw) (hnw : nw ≤ 64) (hsn : sn < tn) (hT : Hid (T[sn]? = some s)) (hsm : s.m < 18446744073709551616) (hsk : s.k = 0 ∨ s.k = 1 ∨ s.k = 2 ∨ s.k = 3) (h : Hid (FdC w rk rb g wb to_ tn tc n lc i nw wc wd T))
    (C : Hid (Calls Tryz.prog 48 #[.pointer (some ⟨rb, 0, none⟩), .int .i64 x] w fun e w' => e = .returned (.int .i64 (i : Int)) ∧ w' = w))
    (CU : Hid (∀ w1, Calls Tryz.prog 50 #[.int .i64 (wd 0)] w1 fun e w' => e = .returned (.tuple #[.int .i64 (m : Int), .int .i64 b2, .int .i64 (sn : Int), .bool true]) ∧ w' = w1)) :
    Calls Tryz.prog 18 #[.pointer (some ⟨rk, 0, none⟩), .int .i64 x] w fun r w' => ∃ ao cap, r = .returned (.slice ao (fldL s.k s.m m wd).length cap) ∧ Gy.RowW w' w.heap.size ao cap (fldL s.k s.m m wd) ∧ G w w' := by
  obtain ⟨c0, c1, c2, c3, cw, _⟩ := unhide h
  have cw0 := cw 0 (by omega)
  have di : decide ((i : Int) < 0) = false := by simp
  have d1 : decide (tn ≤ sn) = false := by simp; omega
  have d2 : decide (nw < m) = false := by simp; omega
  clear cw
  go_enter Tryz.func18, Tryz.ntmps18
  go_wp2_with fail
  refine (unhide C).mono ?_
  rintro r w1 ⟨rfl, rfl⟩
  clear C
  go_wp2_with fail
  refine (unhide CU _).mono ?_
  rintro r w2 ⟨rfl, rfl⟩
  clear CU
  have S0 : Hid (RwS w2 w2 none 0 (fldP s.k s.m m wd 0)) := hide ⟨G.refl _, Gy.RowW.nil _ _⟩
  go_wp2_with fail
  go_loopw [11, 12] (fun v i wr => ∃ (j : Nat) (ao : Option Addr) (cap k : Nat), v = .slice ao k cap ∧ i = .int .i64 (j : Int) ∧ j ≤ m - 1 ∧ Hid ((fldP s.k s.m m wd j).length = k) ∧ Hid (RwS w2 wr ao cap (fldP s.k s.m m wd j)))
    (fun _ i _ => m - (intOf i).toNat)
  case atStart => exact ⟨0, none, 0, 0, rfl, rfl, Nat.zero_le _, hide rfl, S0⟩
  case round =>
    obtain ⟨j, ao, cap, k, rfl, rfl, hj, hk, S⟩ := hrel
    clear S0 c0 c1 c2 c3 cw0
    by_cases hlt : (j : Int) < (m : Int) - 1
    · obtain ⟨c0, c1, c2, c3, cw, ct⟩ := (unhide h).gr (unhide S).g
      obtain ⟨tg, rfl, t0, t1, t2⟩ := ct sn s (unhide hT)
      have cwj := cw (1 + j) (by omega)
      have CH := hide (fun w1 => Hd.rholds_any s.k s.f s.m (j : Int) (m : Int) w1 hsm (by omega) hsk)
      obtain ⟨b, hb⟩ : ∃ b, Hd.holdsB s.k s.m (j : Int) (m : Int) = b := ⟨_, rfl⟩
      rw [hb] at CH
      clear cw ct
      go_wp2_with fail
      refine (unhide CH _).mono ?_
      rintro r w3 ⟨rfl, g3⟩
      replace S := hide ((unhide S).gr g3)
      have cwj3 := G.cell g3 cwj
      clear c0 c1 c2 c3 t0 t1 t2 cwj g3 CH
      obtain ⟨v, hv⟩ : ∃ v, wd (1 + j) = v := ⟨_, rfl⟩
      rw [hv] at cwj3
      cases b
      · go_wp2_with fail
        go_roundw
        case rel => exact ⟨j + 1, ao, cap, k, rfl, by go_num, by omega, hide (by rw [fldP_no (by rw [hb]; simp)]; exact unhide hk), hide (by rw [fldP_no (by rw [hb]; simp)]; exact unhide S)⟩
        case measure => simp [intOf]; omega
      · by_cases hv0 : v = 0
        · subst hv0
          go_wp2_with fail
          go_roundw
          case rel => exact ⟨j + 1, ao, cap, k, rfl, by go_num, by omega, hide (by rw [fldP_no (by rw [hv]; simp)]; exact unhide hk), hide (by rw [fldP_no (by rw [hv]; simp)]; exact unhide S)⟩
          case measure => simp [intOf]; omega
        · have hvb : (v != 0) = true := by simpa using hv0
          have hlen := fldP_len s.k s.m m wd j
          obtain ⟨k2, hk2⟩ : ∃ k2, k + 1 = k2 := ⟨_, rfl⟩
          replace hk2 := hide hk2
          have S4 := hide ((unhide S).gr (G.alloc w3 (.cells #[.int .i64 v] 2)))
          have hx : Hid ((w3.alloc (.cells #[.int .i64 v] 2)).cell? ⟨w3.heap.size, 0, none⟩ = some (.int .i64 v)) := hide (World.cell?_alloc_new _ _ _ 0)
          go_wp2_with (at_builtin; refine Gy.wpl_app rfl _ _ rfl k k2 (unhide hk) (unhide hk2) rfl (unhide S4).row (unhide S4).g.size w3.heap.size 1 v rfl (unhide hx) (by omega) ?_; intro ao4 cap4 w4 A; have S5 := hide ((unhide S4).app A); clear A S4 S hx)
          go_roundw
          case rel => exact ⟨j + 1, ao4, cap4, k2, rfl, by go_num, by omega, hide (by rw [fldP_yes (by rw [hb, hv]; exact ⟨rfl, hv0⟩)]; have := unhide hk; have := unhide hk2; simp; omega), hide (by rw [fldP_yes (by rw [hb, hv]; exact ⟨rfl, hv0⟩), hv]; exact unhide S5)⟩
          case measure => simp [intOf]; omega
    · go_wp2_with fail
      go_ret
      have : j = m - 1 := by omega
      subst this
      rw [fldP_all] at hk S
      exact ⟨ao, cap, by rw [unhide hk]; rfl, (unhide S).row, (unhide S).g⟩

theorem d_fields_none (w : World) (rk rb : Nat) (x : Int) (c0 : w.cell? ⟨rk, 0, none⟩ = some (.pointer (some ⟨rb, 0, none⟩)))
    (C : Hid (Calls Tryz.prog 48 #[.pointer (some ⟨rb, 0, none⟩), .int .i64 x] w fun e w' => e = .returned (.int .i64 (-1)) ∧ w' = w)) :
    Calls Tryz.prog 18 #[.pointer (some ⟨rk, 0, none⟩), .int .i64 x] w fun r w' => r = .returned (.slice none 0 0) ∧ w' = w := by
  go_enter Tryz.func18, Tryz.ntmps18
  go_wp2_with fail
  refine (unhide C).mono ?_
  rintro r w1 ⟨rfl, rfl⟩
  clear C
  go_wp2_with fail
  go_ret
  exact ⟨rfl, rfl⟩
set_option maxHeartbeats 1000000 in
theorem d_fields_no (w : World) (rk rb g wb : Nat) (to_ : Option Addr) (tn tc n lc i nw wc : Nat) (wd : Nat → Int) (T : List Hd.Shp) (x m b2 sn : Int) (ok : Bool) (hin : i < n) (hnw : 0 < nw) (h : Hid (FdC w rk rb g wb to_ tn tc n lc i nw wc wd T))
    (hno : ok = false ∨ ok = true ∧ decide ((tn : Int) ≤ sn) = true ∨ ok = true ∧ decide ((tn : Int) ≤ sn) = false ∧ decide ((nw : Int) < m) = true)
    (C : Hid (Calls Tryz.prog 48 #[.pointer (some ⟨rb, 0, none⟩), .int .i64 x] w fun e w' => e = .returned (.int .i64 (i : Int)) ∧ w' = w))
    (CU : Hid (∀ w1, Calls Tryz.prog 50 #[.int .i64 (wd 0)] w1 fun e w' => e = .returned (.tuple #[.int .i64 m, .int .i64 b2, .int .i64 sn, .bool ok]) ∧ w' = w1)) :
    Calls Tryz.prog 18 #[.pointer (some ⟨rk, 0, none⟩), .int .i64 x] w fun r w' => r = .returned (.slice none 0 0) ∧ w' = w := by
  obtain ⟨c0, c1, c2, c3, cw, _⟩ := unhide h
  have cw0 := cw 0 hnw
  have di : decide ((i : Int) < 0) = false := by simp
  clear cw
  rcases hno with rfl | ⟨rfl, d1⟩ | ⟨rfl, d1, d2⟩
  all_goals
    go_enter Tryz.func18, Tryz.ntmps18
    go_wp2_with fail
    refine (unhide C).mono ?_
    rintro r w1 ⟨rfl, rfl⟩
    go_wp2_with fail
    refine (unhide CU _).mono ?_
    rintro r w2 ⟨rfl, rfl⟩
    go_wp2_with fail
    go_ret
    exact ⟨rfl, rfl⟩

theorem da_find2 {x : Rq} {al : Al} {D : List Nat} (h : DA W w x al N D) (hN : N ≤ 2000) (y : Int) :
    (Calls Tryz.prog 48 #[.pointer (some ⟨x.rb, 0, none⟩), .int .i64 y] w (fun e w' => e = .returned (.int .i64 (-1)) ∧ w' = w) ∧ al.a.is y = false) ∨
    ∃ (i g n lc wb nw wc : Nat), Calls Tryz.prog 48 #[.pointer (some ⟨x.rb, 0, none⟩), .int .i64 y] w (fun e w' => e = .returned (.int .i64 (i : Int)) ∧ w' = w) ∧ al.a.is y = true ∧ DAt W w x al N D y i g n lc wb nw wc := by
  obtain ⟨r, cl, l, h⟩ := h
  have T := rfind_at h.ref (by have := h.ln; omega) y
  rw [h.erb] at T
  rcases findI_cases (things l) y with ⟨e1, hn⟩ | ⟨i, t, e1, hi, ha⟩
  · rw [e1] at T
    exact Or.inl ⟨T, h.rl.rel.no_is h.good hn⟩
  · rw [e1] at T
    obtain ⟨m, hm, rfl⟩ : ∃ m, l[i]? = some m ∧ m.t = t := by
      unfold things at hi
      rw [List.getElem?_map] at hi
      exact Option.map_eq_some_iff.1 hi
    obtain ⟨b, eb, _⟩ := h.ref.row i m hm
    exact Or.inr ⟨i, b, l.length, r.lc, m.wb, m.t.ws.length, m.wc, T, (h.rl.rel.mark_at h.good (List.mem_of_getElem? (things_get hm)) ha).1, r, cl, l, m, h, hm, ha, eb, rfl, rfl, rfl, rfl, rfl⟩

theorem nil_row : ∃ ao cap, Ending.returned (.slice none 0 0) = .returned (.slice ao ([] : List Int).length cap) ∧ Gy.RowW w w.heap.size ao cap [] ∧ G w w := ⟨none, 0, rfl, Gy.RowW.nil _ _, G.refl _⟩
theorem d_fields (h : Hid (MS W w L M1 M2 N E)) (hN : N ≤ 2000) (hK : ∀ s ∈ M2.T, (s.k = 0 ∨ s.k = 1 ∨ s.k = 2 ∨ s.k = 3) ∧ s.m < 18446744073709551616) (x : Int) :
    Calls Tryz.prog 18 #[.pointer (some ⟨L.rk, 0, none⟩), .int .i64 x] w fun r w' => ∃ ao cap, r = .returned (.slice ao (M2.flds x).length cap) ∧ Gy.RowW w' w.heap.size ao cap (M2.flds x) ∧ G w w' := by
  obtain ⟨e, hx⟩ := unhide h
  rcases da_find2 hx.bo.da hN x with ⟨C, hi⟩ | ⟨i, g, n, lc, wb, nw, wc, C, hi, D⟩
  · have ef : M2.flds x = [] := by unfold Ms.flds Ab.flds; rw [if_neg (fun hh => by rw [hi] at hh; cases hh.1)]
    rw [ef]
    refine (d_fields_none w L.rk L.x.rb x hx.dm.c0 (hide C)).mono ?_
    rintro r w' ⟨rfl, rfl⟩
    exact nil_row
  · obtain ⟨d1, _, d3, d4, d5, d6⟩ := D.cells
    have hgd : M2.al.a.Good := hx.bo.da.good
    obtain ⟨hw2, hw64⟩ := is_gw hgd hi
    have FC : Hid (FdC w L.rk L.x.rb g wb e.to M2.T.length e.tc n lc i nw wc (fun k => M2.al.a.wd (x + k)) M2.T) := hide ⟨hx.dm.c0, hx.dm.c1, d1, d3, fun k hk => (D.word hk).1, fun j s hs => by
      have hr := hx.dm.row
      rcases hr.2 with ⟨_, h0⟩ | ⟨tg, c, cur, e1, _⟩
      · have := (List.getElem?_eq_some_iff.1 hs).1; omega
      · have e2 : e.to = some ⟨tg, 0, none⟩ := by injection e1
        rw [e2] at hr
        exact ⟨tg, e2, rrow_cells hr hs⟩⟩
    have e0 : M2.al.a.wd (x + ((0 : Nat) : Int)) = M2.al.a.wd x := by simp
    have CU := fun w1 => Hd.runpack_any (M2.al.a.wd x) w1
    by_cases h2 : Hd.uokB (M2.al.a.wd x) = true
    · obtain ⟨u1, u2, u3⟩ := uok_lo h2
      have ea : ∀ y, Hd.ukV (M2.al.a.wd x) y = y := fun y => by unfold Hd.ukV; rw [if_pos h2]
      simp only [ea, h2] at CU
      by_cases hs : (M2.T.length : Int) ≤ Hd.up2 (M2.al.a.wd x)
      · have ef : M2.flds x = [] := by
          rw [Ms.flds_obj]
          have : M2.obj x = (⟨0, 0, 0⟩, 0) := by
            unfold Ms.obj
            rw [List.getElem?_eq_none (by omega)]
            split <;> rfl
          rw [this]; rfl
        rw [ef]
        refine (d_fields_no w L.rk L.x.rb g wb e.to M2.T.length e.tc n lc i nw wc _ M2.T x _ _ _ true d4 (by omega) FC (Or.inr (Or.inl ⟨rfl, by simpa using hs⟩)) (hide C) (hide (by simp only [e0]; exact CU))).mono ?_
        rintro r w' ⟨rfl, rfl⟩
        exact nil_row
      · by_cases h3 : Hd.up0 (M2.al.a.wd x) ≤ gw (M2.al.a.clsI (gs x))
        · obtain ⟨s, hT⟩ : ∃ s, M2.T[(Hd.up2 (M2.al.a.wd x)).toNat]? = some s := ⟨_, List.getElem?_eq_getElem (by omega)⟩
          have eo : M2.obj x = (s, (Hd.up0 (M2.al.a.wd x)).toNat) := by unfold Ms.obj; rw [if_pos ⟨hi, h2, h3⟩, hT]
          obtain ⟨k1, k2⟩ := hK s (List.mem_of_getElem? hT)
          rw [Ms.flds_obj, eo]
          exact d_fields_yes w L.rk L.x.rb g wb e.to M2.T.length e.tc n lc i nw wc _ M2.T x (Hd.up0 (M2.al.a.wd x)).toNat (Hd.up1 (M2.al.a.wd x)) (Hd.up2 (M2.al.a.wd x)).toNat s d4 (by omega) (by omega) (by omega) (by omega) (hide hT) k2 k1 FC (hide C) (hide (by simp only [e0]; rw [Int.toNat_of_nonneg u3, Int.toNat_of_nonneg (by omega)]; exact CU))
        · have ef : M2.flds x = [] := by unfold Ms.flds Ab.flds; rw [if_neg (fun hh => h3 hh.2.2)]
          rw [ef]
          refine (d_fields_no w L.rk L.x.rb g wb e.to M2.T.length e.tc n lc i nw wc _ M2.T x (Hd.up0 (M2.al.a.wd x)) (Hd.up1 (M2.al.a.wd x)) (Hd.up2 (M2.al.a.wd x)) true d4 (by omega) FC (Or.inr (Or.inr ⟨rfl, by simpa using hs, decide_eq_true (by omega)⟩)) (hide C) (hide (by simp only [e0]; exact CU))).mono ?_
          rintro r w' ⟨rfl, rfl⟩
          exact nil_row
    · have ef : M2.flds x = [] := by unfold Ms.flds Ab.flds; rw [if_neg (fun hh => h2 hh.2.1)]
      rw [ef]
      have h2' : Hd.uokB (M2.al.a.wd x) = false := by simpa using h2
      rw [h2'] at CU
      refine (d_fields_no w L.rk L.x.rb g wb e.to M2.T.length e.tc n lc i nw wc _ M2.T x _ _ _ false d4 (by omega) FC (Or.inl rfl) (hide C) (hide (by simp only [e0]; exact CU))).mono ?_
      rintro r w' ⟨rfl, rfl⟩
      exact nil_row
end
end Go.Proofs.YtinehimleldkdaaGreatDoor

/- The document's own Marker: Step. -/
namespace Go.Proofs.YtinehimleldkdaaGreatDoor
set_option maxRecDepth 100000
open Go.ChangeShapes Go.WideShapes Go.ChangeAt Go.RowKit Go.Maps Go.Deep

section
variable {W w w' : World} {L : Lc} {e : Lx} {M M1 M2 : Ms} {N N' B : Nat} {E E' F : List Nat}
theorem d_step_none (h : Hid (MS W w L M1 M2 N E)) (h0 : M2.g = []) : Calls Tryz.prog 20 #[.pointer (some ⟨L.rk, 0, none⟩)] w fun r w' => r = .returned (.bool false) ∧ w' = w := by
  obtain ⟨e, hx⟩ := unhide h
  have c2 := hx.dm.c2
  rw [h0] at c2
  simp only [List.length_nil] at c2
  clear hx h
  go_enter Tryz.func20, Tryz.ntmps20
  go_wp2_with fail
  go_ret
  exact ⟨rfl, rfl⟩

set_option maxHeartbeats 4000000 in
theorem d_step_some (h : Hid (MS W w L M1 M2 N E)) (hN : N ≤ 2000) (hK : Hid (∀ s ∈ M2.T, (s.k = 0 ∨ s.k = 1 ∨ s.k = 2 ∨ s.k = 3) ∧ s.m < 18446744073709551616)) {x : Int} {rs : List Int} (h0 : Hid (M2.g = x :: rs)) (hn : rs.length ≤ 900) :
    Calls Tryz.prog 20 #[.pointer (some ⟨L.rk, 0, none⟩)] w fun r w' => r = .returned (.bool true) ∧ MS W w' L M1 M2.step N E ∧ Kd w w' E := by
  obtain ⟨e, hx⟩ := unhide h
  have c2 := hx.dm.c2
  have R := hx.dm.grey
  rw [unhide h0] at c2 R
  rw [List.length_cons] at c2
  obtain ⟨g, off, hgo, cx, hcap, _⟩ := R.tail
  rw [hgo] at c2
  have CF := hide (d_fields h hN (unhide hK) x)
  have H := hide hx
  have eM : Hid (M2.step = Ms.shades ⟨M2.al, M2.T, rs⟩ (M2.flds x)) := hide (by unfold Ms.step; rw [unhide h0])
  have hfl := M2.flds_len x
  obtain ⟨ys, hys⟩ : ∃ ys, M2.flds x = ys := ⟨_, rfl⟩
  rw [unhide eM, hys]
  rw [hys] at hfl CF
  obtain ⟨k, hk⟩ : ∃ k, ys.length = k := ⟨_, rfl⟩
  rw [hk] at hfl CF
  obtain ⟨m, hm⟩ : ∃ m, rs.length = m := ⟨_, rfl⟩
  rw [hm] at c2
  have hm9 : m ≤ 900 := by omega
  have hgm : Hid (M2.g.length = m + 1) := hide (by rw [unhide h0, List.length_cons, hm])
  replace hk := hide hk
  replace hm := hide hm
  replace hgo := hide hgo
  obtain ⟨gc, hgc⟩ : ∃ gc, e.gc = gc := ⟨_, rfl⟩
  rw [hgc] at c2 hcap
  replace hgc := hide hgc
  clear hx h eM R
  go_enter Tryz.func20, Tryz.ntmps20
  go_wp2_with fail
  refine (unhide CF).mono ?_
  rintro r w1 ⟨ao, cap, rfl, R1, g1⟩
  have X1 : Hid (MSx W w1 L e M1 M2 N (Gy.blk ao ++ E)) := hide ((unhide H).loc (F := []) (Trn.of_G g1) (fun _ hf => by cases hf) fun d hd => by
    rcases List.mem_append.1 hd with h1 | h1
    · exact Or.inr (R1.lo d h1)
    · exact Or.inl h1)
  have I1 := hide R1.is
  have K1 : Hid (Kd w w1 E) := hide fun d hd => g1.block d ((unhide H).lt d (by simp [hd]))
  have c21 := (unhide X1).dm.c2
  have f21 := (unhide X1).dm.fz 2
  rw [unhide hgo, unhide hgm, unhide hgc] at c21
  have RT := (unhide X1).dm.grey
  rw [unhide h0] at RT
  obtain ⟨g', off', hgo', _, _, RT2⟩ := RT.tail
  rw [unhide hgo] at hgo'
  obtain ⟨rfl, rfl⟩ : g = g' ∧ off = off' := by injection hgo' with q; injection q with q1 q2; exact ⟨q1, q2⟩
  rw [unhide hgc] at RT2
  have Zf : Hid (∀ go' gc', Gy.RowW w1 W.heap.size go' gc' rs → (∀ d ∈ Gy.blk go', d = g) → MS W (w1.setCell ⟨L.rk, 2, none⟩ (.slice go' m gc')) L M1 ⟨M2.al, M2.T, rs⟩ N (Gy.blk ao ++ E) ∧ Kd w1 (w1.setCell ⟨L.rk, 2, none⟩ (.slice go' m gc')) (Gy.blk ao ++ E)) := hide fun go' gc' r1 r2 => by
    have := (unhide X1).gre (Gy.Gx.of_G (G.refl w1)) r1 fun d hd => Or.inl (by rw [unhide hgo, r2 d hd]; simp [Gy.blk])
    rw [unhide hm] at this
    exact this
  clear c2 cx CF H R1 g1 RT hgo'
  by_cases hc1 : gc = 1
  all_goals
    first
    | (subst hc1; rw [if_pos rfl] at RT2; have Z := hide (unhide Zf _ _ RT2 (fun d hd => by simpa [Gy.blk] using hd)))
    | (rw [if_neg hc1] at RT2; have Z := hide (unhide Zf _ _ RT2 (fun d hd => by simpa [Gy.blk] using hd)))
    clear RT2 Zf
    go_wp2_with fail
    have I2 := hide (IsI_kept2 (unhide I1) (fun d hd => (unhide Z).2 d (List.mem_append.2 (Or.inl hd))) fun d hd => (unhide Z).1.lt d (List.mem_append.2 (Or.inl hd)))
    have K2 := hide ((unhide K1).trans fun d hd => (unhide Z).2 d (List.mem_append.2 (Or.inr hd)))
    have X2 := hide (unhide Z).1
    clear Z c21 f21
    go_loopw [4] (fun i wr => ∃ j : Nat, i = .int .i64 (j : Int) ∧ j ≤ k ∧ Hid (MS W wr L M1 (Ms.shades ⟨M2.al, M2.T, rs⟩ (ys.take j)) N (Gy.blk ao ++ E)) ∧ Hid (Gy.IsI wr ao ys) ∧ Hid (Kd w wr E))
      (fun i _ => k - (intOf i).toNat)
    case atStart => exact ⟨0, rfl, Nat.zero_le _, by rw [List.take_zero]; exact X2, I2, K2⟩
    case round =>
      obtain ⟨j, rfl, hj, X, I, K⟩ := hrel
      clear X2 I2 K2 I1 K1 X1
      by_cases hlt : j < k
      · obtain ⟨y, gg, oy, hy, rfl, cy⟩ := (unhide I).at_ (i := j) (by have := unhide hk; omega)
        have hT : Hid (ys.take (j + 1) = ys.take j ++ [y]) := hide (by rw [List.take_add_one, hy]; rfl)
        have hg : (Ms.shades ⟨M2.al, M2.T, rs⟩ (ys.take j)).g.length ≤ 1000 := by
          have := Ms.shades_g (ys.take j) ⟨M2.al, M2.T, rs⟩
          rw [List.length_take] at this
          simp only at this
          omega
        have C := hide (d_shade X hN hg y)
        rw [← Ms.shades_snoc, ← unhide hT] at C
        clear hy hg hT
        generalize (Ms.shades ⟨M2.al, M2.T, rs⟩ (ys.take j)).al.a.markB y = bb at *
        go_wp2_with fail
        refine (unhide C).mono ?_
        rintro r w3 ⟨rfl, X3, K3⟩
        have I3 := hide (IsI_kept2 (unhide I) (fun d hd => K3 d (List.mem_append.2 (Or.inl hd))) fun d hd => X3.lt d (List.mem_append.2 (Or.inl hd)))
        have K4 := hide ((unhide K).trans fun d hd => K3 d (List.mem_append.2 (Or.inr hd)))
        have X3 := hide X3
        clear C K3 cy X I K
        go_wp2_with fail
        go_roundw
        case rel => exact ⟨j + 1, by go_num, by omega, X3, I3, K4⟩
        case measure => simp [intOf]; omega
      · go_wp2_with fail
        go_ret
        have : j = k := by omega
        subst this
        rw [List.take_of_length_le (by have := unhide hk; omega)] at X
        exact ⟨rfl, (unhide X).sub fun d hd => List.mem_append.2 (Or.inr hd), unhide K⟩
end
end Go.Proofs.YtinehimleldkdaaGreatDoor

/- PLAIN: the document's own way to what can be come to: flags over the rising addresses, passed over again and again. -/
namespace Go.Proofs.YtinehimleldkdaaGreatDoor
set_option maxRecDepth 100000

/-- How many of the first n flags are not set. -/
def unset (f : Nat → Bool) : Nat → Nat
  | 0 => 0
  | n + 1 => unset f n + if f n = true then 0 else 1
def setF (f : Nat → Bool) (k : Nat) : Nat → Bool := fun i => if i = k then true else f i
theorem setF_same (f : Nat → Bool) (k : Nat) : setF f k k = true := by simp [setF]
theorem setF_mono (f : Nat → Bool) (k i : Nat) (h : f i = true) : setF f k i = true := by unfold setF; split <;> simp [h]
theorem setF_inv {f : Nat → Bool} {k i : Nat} (h : setF f k i = true) : i = k ∨ f i = true := by
  unfold setF at h
  split at h
  · exact Or.inl (by assumption)
  · exact Or.inr h
theorem unset_set {f : Nat → Bool} {k : Nat} (hk : f k = false) : ∀ n, unset (setF f k) n + (if k < n then 1 else 0) = unset f n
  | 0 => rfl
  | n + 1 => by
    have ih := unset_set hk n
    unfold unset
    by_cases e : n = k
    · subst e
      rw [setF_same, hk]
      simp at ih ⊢
      omega
    · have : setF f k n = f n := by unfold setF; rw [if_neg e]
      rw [this]
      by_cases h : k < n
      · rw [if_pos h] at ih
        have h2 : k < n + 1 := by omega
        simp only [h2, if_true]
        omega
      · rw [if_neg h] at ih
        have h2 : ¬ k < n + 1 := by omega
        simp only [h2, if_false]
        omega

section
variable (is : Int → Bool) (F : Int → List Int) (A S : List Int)
/-- The flags of places that can be come to. -/
structure FlI (f : Nat → Bool) : Prop where
  sound : ∀ k x, A[k]? = some x → f k = true → Rch is F S x
/-- The roots have theirs. -/
def FlR (f : Nat → Bool) : Prop := ∀ (k : Nat) x, A[k]? = some x → x ∈ S → f k = true
/-- Place k leads to flagged ones alone, through the first m fields. -/
def FlC (f : Nat → Bool) (k m : Nat) : Prop := ∀ x, A[k]? = some x → ∀ y ∈ (F x).take m, ∀ j, A[j]? = some y → f j = true
variable {is F A S}
theorem FlC.mono {f f' : Nat → Bool} {k m : Nat} (h : FlC F A f k m) (hm : ∀ i, f i = true → f' i = true) : FlC F A f' k m := fun x hx y hy j hj => hm j (h x hx y hy j hj)
theorem FlI.set {f : Nat → Bool} {k : Nat} (h : FlI is F A S f) (hr : ∀ x, A[k]? = some x → Rch is F S x) : FlI is F A S (setF f k) := ⟨fun i x hx hi => by
  rcases setF_inv hi with e | e
  · subst e; exact hr x hx
  · exact h.sound i x hx e⟩
/-- When a pass has set none, the flags tell just what can be come to. -/
theorem fl_done {f : Nat → Bool} (hA : ∀ y, is y = true ↔ y ∈ A) (hi : FlI is F A S f) (hr : FlR A S f) (hc : ∀ k, k < A.length → f k = true → ∀ x, A[k]? = some x → ∀ y ∈ F x, ∀ j, A[j]? = some y → f j = true) {k : Nat} {x : Int} (hx : A[k]? = some x) : f k = true ↔ Rch is F S x := by
  refine ⟨hi.sound k x hx, fun r => ?_⟩
  have key : (∃ i : Nat, A[i]? = some x) ∧ ∀ j : Nat, A[j]? = some x → f j = true := by
    refine Rch.least (P := fun y => (∃ i : Nat, A[i]? = some y) ∧ ∀ j : Nat, A[j]? = some y → f j = true) (fun y hy h1 => ⟨List.mem_iff_getElem?.1 ((hA y).1 h1), fun j hj => hr j y hj hy⟩) (fun z y hz hy h1 => ⟨List.mem_iff_getElem?.1 ((hA y).1 h1), fun j hj => ?_⟩) r
    obtain ⟨⟨i, hi⟩, hz2⟩ := hz
    exact hc i (List.getElem?_eq_some_iff.1 hi).1 (hz2 i hi) z hi y hy j hj
  exact key.2 k hx
end

/-- The flagged ones of the first j. -/
def outL (f : Nat → Bool) (A : List Int) : Nat → List Int
  | 0 => []
  | j + 1 => if f j = true then outL f A j ++ [A.getD j 0] else outL f A j
theorem outL_len (f : Nat → Bool) (A : List Int) : ∀ j, (outL f A j).length ≤ j
  | 0 => Nat.le_refl _
  | j + 1 => by
    have := outL_len f A j
    unfold outL
    split
    · simp; omega
    · omega
theorem outL_mem (f : Nat → Bool) (A : List Int) (y : Int) : ∀ j, j ≤ A.length → (y ∈ outL f A j ↔ ∃ k, k < j ∧ f k = true ∧ A[k]? = some y)
  | 0, _ => by simp [outL]
  | j + 1, hj => by
    have ih := outL_mem f A y j (by omega)
    have hg : A[j]? = some (A.getD j 0) := by rw [List.getD_eq_getElem?_getD, List.getElem?_eq_getElem (by omega)]; rfl
    unfold outL
    constructor
    · intro h
      split at h
      · rename_i hf
        rcases List.mem_append.1 h with h | h
        · obtain ⟨k, h1, h2, h3⟩ := ih.1 h
          exact ⟨k, by omega, h2, h3⟩
        · simp only [List.mem_singleton] at h
          exact ⟨j, by omega, hf, by rw [h]; exact hg⟩
      · obtain ⟨k, h1, h2, h3⟩ := ih.1 h
        exact ⟨k, by omega, h2, h3⟩
    · rintro ⟨k, h1, h2, h3⟩
      by_cases e : k = j
      · subst e
        rw [if_pos h2]
        rw [hg] at h3
        injection h3 with h3
        exact List.mem_append.2 (Or.inr (List.mem_singleton.2 h3.symm))
      · have := ih.2 ⟨k, by omega, h2, h3⟩
        split
        · exact List.mem_append.2 (Or.inl this)
        · exact this
theorem outL_asc {f : Nat → Bool} {A : List Int} (hA : Asc A) : ∀ j, j ≤ A.length → Asc (outL f A j)
  | 0, _ => List.Pairwise.nil
  | j + 1, hj => by
    have ih := outL_asc (f := f) hA j (by omega)
    unfold outL
    split
    · refine List.pairwise_append.2 ⟨ih, by simp, fun a ha b hb => ?_⟩
      obtain ⟨k, h1, _, h3⟩ := (outL_mem f A a j (by omega)).1 ha
      have hg : A[j]? = some (A.getD j 0) := by rw [List.getD_eq_getElem?_getD, List.getElem?_eq_getElem (by omega)]; rfl
      simp only [List.mem_singleton] at hb
      subst hb
      obtain ⟨q1, e1⟩ := List.getElem?_eq_some_iff.1 h3
      obtain ⟨q2, e2⟩ := List.getElem?_eq_some_iff.1 hg
      have := List.pairwise_iff_getElem.1 hA k j q1 q2 h1
      rw [e1, e2] at this
      exact this
    · exact ih
end Go.Proofs.YtinehimleldkdaaGreatDoor

/- The document's own Reach: flags over the rising addresses, passed over till a pass sets none. -/
namespace Go.Proofs.YtinehimleldkdaaGreatDoor
set_option maxRecDepth 100000
open Go.ChangeShapes Go.WideShapes Go.ChangeAt Go.RowKit Go.Maps Go.Deep

/-- The flags of a call, in a block of its own. -/
structure FsB (w wr : World) (fb n : Nat) (f : Nat → Bool) : Prop where
  g : G w wr
  lo : w.heap.size ≤ fb
  lt : fb < wr.heap.size
  c : ∀ i, i < n → wr.cell? ⟨fb, i, none⟩ = some (.bool (f i))
  fz : ∀ i, wr.frozen? ⟨fb, i, none⟩ = false
section
variable {w wr wr' : World} {fb n : Nat} {f : Nat → Bool}
theorem FsB.gr (h : FsB w wr fb n f) (g : G wr wr') : FsB w wr' fb n f :=
  ⟨h.g.trans g, h.lo, Nat.lt_of_lt_of_le h.lt g.size, fun i hi => g.cell (h.c i hi), fun i => (World.frozen?_of_block (a := ⟨fb, i, none⟩) (g.block fb h.lt)).trans (h.fz i)⟩
theorem FsB.set (h : FsB w wr fb n f) {k : Nat} (hk : k < n) : FsB w (wr.setCell ⟨fb, k, none⟩ (.bool true)) fb n (setF f k) := by
  refine ⟨h.g.setCell h.lo _, h.lo, ?_, fun i hi => ?_, fun i => ?_⟩
  · rw [World.size_setCell]; exact h.lt
  · unfold setF
    split
    · rename_i e; subst e; exact cell_same _ (h.c _ hk)
    · rename_i e
      rw [cell_other _ (Or.inr e)]
      exact h.c i hi
  · rw [World.frozen?_setCell]; exact h.fz i
end
theorem FsB.app {w wr wr' : World} {fb n cap' cap0 : Nat} {f : Nat → Bool} {ao ao' : Option Addr} {xs ys0 : List Int} (h : FsB w wr fb n f) (hN : fb ∉ Gy.blk ao) (a : Gy.App wr wr' w.heap.size ao ao' cap' xs) (r : Gy.RowW wr w.heap.size ao cap0 ys0) : FsB w wr' fb n f ∧ fb ∉ Gy.blk ao' := by
  obtain ⟨_, hb, gx⟩ := a
  have kb : wr'.heap[fb]? = wr.heap[fb]? := gx.block fb h.lt hN
  refine ⟨⟨⟨gx.os.trans h.g.os, gx.tape.trans h.g.tape, gx.output.trans h.g.output, Nat.le_trans h.g.size gx.size, fun k hk => (gx.block k (Nat.lt_of_lt_of_le hk h.g.size) fun hm => by have := (r.lo k hm).1; omega).trans (h.g.block k hk)⟩, h.lo, Nat.lt_of_lt_of_le h.lt gx.size, fun i hi => (World.cell?_of_block (a := ⟨fb, i, none⟩) kb).trans (h.c i hi), fun i => (World.frozen?_of_block (a := ⟨fb, i, none⟩) kb).trans (h.fz i)⟩, fun hd => ?_⟩
  rcases hb with e | e
  · rw [e] at hd; exact hN hd
  · rw [e] at hd
    simp at hd
    have := h.lt
    omega
/-- What is not flagged yet, read off the cells. -/
def isT : Option Value → Bool
  | some (.bool true) => true
  | _ => false
def unsetW (w : World) (fb n : Nat) : Nat := unset (fun i => isT (w.cell? ⟨fb, i, none⟩)) n
theorem unset_eq {f f' : Nat → Bool} : ∀ {n : Nat}, (∀ i, i < n → f i = f' i) → unset f n = unset f' n
  | 0, _ => rfl
  | n + 1, h => by unfold unset; rw [unset_eq fun i hi => h i (by omega), h n (by omega)]
theorem FsB.un {w wr : World} {fb n : Nat} {f : Nat → Bool} (h : FsB w wr fb n f) : unsetW wr fb n = unset f n := by
  refine unset_eq fun i hi => ?_
  rw [h.c i hi]
  cases f i <;> rfl
def agN (v : Value) : Nat := match v with
  | .bool true => 1
  | _ => 0
/-- All that place k leads to is flagged. -/
def Clo (F : Int → List Int) (A : List Int) (f : Nat → Bool) (k : Nat) : Prop := f k = true → ∀ x, A[k]? = some x → ∀ y ∈ F x, ∀ j : Nat, A[j]? = some y → f j = true

/-- A pass, so far: flags f, behind flags f0; ag: it has set one; places below i are done. -/
structure Pass (is : Int → Bool) (F : Int → List Int) (A S : List Int) (n : Nat) (f0 f : Nat → Bool) (ag : Bool) (i : Nat) : Prop where
  snd : FlI is F A S f
  rts : FlR A S f
  mono : ∀ i, f0 i = true → f i = true
  yes : ag = true → unset f n < unset f0 n
  no : ag = false → (∀ k, k < n → f k = f0 k) ∧ ∀ k, k < i → Clo F A f k
theorem unset_le_set (f : Nat → Bool) (k n : Nat) : unset (setF f k) n ≤ unset f n := by
  cases h : f k
  · have := unset_set h n; omega
  · have : setF f k = f := by
      funext i
      unfold setF
      split
      · rename_i e; rw [e, h]
      · rfl
    rw [this]; exact Nat.le_refl _
section
variable {is : Int → Bool} {F : Int → List Int} {A S : List Int} {n : Nat} {f0 f : Nat → Bool} {ag : Bool} {i : Nat}
theorem Pass.set (h : Pass is F A S n f0 f ag i) {k : Nat} (hk : k < n) (hf : f k = false) (hr : ∀ x, A[k]? = some x → Rch is F S x) : Pass is F A S n f0 (setF f k) true i := by
  refine ⟨h.snd.set hr, fun j x hx hs => setF_mono _ _ _ (h.rts j x hx hs), fun j hj => setF_mono _ _ _ (h.mono j hj), fun _ => ?_, fun e => by cases e⟩
  have h1 := unset_set hf n
  rw [if_pos hk] at h1
  cases ag
  · obtain ⟨h2, _⟩ := h.no rfl
    rw [← unset_eq h2]
    omega
  · have := h.yes rfl
    omega
theorem Pass.next (h : Pass is F A S n f0 f ag i) (hc : ag = false → Clo F A f i) : Pass is F A S n f0 f ag (i + 1) :=
  ⟨h.snd, h.rts, h.mono, h.yes, fun e => ⟨(h.no e).1, fun k hk => by
    rcases Nat.lt_succ_iff_lt_or_eq.1 hk with h1 | h1
    · exact (h.no e).2 k h1
    · subst h1; exact hc e⟩⟩
end

set_option maxHeartbeats 16000000 in
theorem dreach_core (w : World) (rk rb : Nat) (lo bo : Option Addr) (n lc m cb : Nat) (ys A : List Int) (is : Int → Bool) (F : Int → List Int) (hn5 : n ≤ 512) (hm5 : m ≤ 1000) (hA : Hid (A.length = n)) (hm : Hid (ys.length = m)) (C : Array Value)
    (MB : ∀ w, (Instr.makeSlice 103 (.int .i64 (n : Int)) (.int .i64 (n : Int))).run Tryz.prog w = .ok (.slice (some ⟨w.heap.size, 0, none⟩) n n) (w.alloc (.cells C 4)))
    (c0 : w.cell? ⟨rk, 0, none⟩ = some (.pointer (some ⟨rb, 0, none⟩))) (c1 : w.cell? ⟨rb, 1, none⟩ = some (.slice lo n lc)) (ca : Hid (∀ (i : Nat) x, A[i]? = some x → ∃ g, lo = some ⟨g, 0, none⟩ ∧ w.cell? ⟨g, i * 3, none⟩ = some (.int .i64 x)))
    (hs0 : Hid (FsB w (w.alloc (.cells C 4)) w.heap.size n fun _ => false))
    (hfd : Hid (∀ y, (∃ k : Nat, A[k]? = some y ∧ ∀ w1, G w w1 → Calls Tryz.prog 48 #[.pointer (some ⟨rb, 0, none⟩), .int .i64 y] w1 fun r w' => r = .returned (.int .i64 (k : Int)) ∧ w' = w1) ∨ (y ∉ A ∧ ∀ w1, G w w1 → Calls Tryz.prog 48 #[.pointer (some ⟨rb, 0, none⟩), .int .i64 y] w1 fun r w' => r = .returned (.int .i64 (-1)) ∧ w' = w1)))
    (hF : Hid (∀ x w1, G w w1 → Calls Tryz.prog 18 #[.pointer (some ⟨rk, 0, none⟩), .int .i64 x] w1 fun r w' => ∃ ao cap, r = .returned (.slice ao (F x).length cap) ∧ Gy.RowW w' w1.heap.size ao cap (F x) ∧ G w1 w')) (hFl : Hid (∀ x, (F x).length ≤ 1000))
    (hI : Hid (Gy.IsI w bo ys)) (his : Hid (∀ y, is y = true ↔ y ∈ A)) (hasc : Hid (Asc A)) :
    Calls Tryz.prog 19 #[.pointer (some ⟨rk, 0, none⟩), .slice bo m cb] w fun r w' => ∃ ao cap fnd, r = .returned (.slice ao fnd.length cap) ∧ Gy.RowW w' w.heap.size ao cap fnd ∧ G w w' ∧ Asc fnd ∧ ∀ y, y ∈ fnd ↔ Rch is F ys y := by
  have lrk := World.block_lt_of_cell? _ _ c0
  have lrb := World.block_lt_of_cell? _ _ c1
  obtain ⟨fb, hfb⟩ : ∃ fb, w.heap.size = fb := ⟨_, rfl⟩
  rw [hfb] at hs0
  have hfb' := hide hfb
  go_enter Tryz.func19, Tryz.ntmps19
  go_wp2_with fail
  clear MB hfb
  go_loopw [6] (fun c wr => ∃ (j : Nat) (f : Nat → Bool), c = .int .i64 (j : Int) ∧ j ≤ m ∧ Hid (FsB w wr fb n f) ∧ Hid (FlI is F A ys f) ∧ Hid (∀ (k : Nat) x, A[k]? = some x → x ∈ ys.take j → f k = true)) (fun c _ => m - (intOf c).toNat)
  case atStart => exact ⟨0, fun _ => false, rfl, Nat.zero_le _, hs0, hide ⟨fun _ _ _ h => by cases h⟩, hide fun _ _ _ h => by simp at h⟩
  case round =>
    obtain ⟨j, f, rfl, hj, X, I, R⟩ := hrel
    clear hs0
    by_cases hlt : j < m
    · --<A
      obtain ⟨y, gy, oy, hy, rfl, cy⟩ := ((unhide hI).g (unhide X).g).at_ (i := j) (by have := unhide hm; omega)
      have cS := And.intro (G.cell (unhide X).g c0) cy
      have lrk' := World.block_lt_of_cell? _ _ cS.1
      have lgy := World.block_lt_of_cell? _ _ cy
      have eT := hide (take_snocI hy)
      have hmem := hide (List.mem_of_getElem? hy)
      clear hy cy
      rcases unhide hfd y with ⟨k, hk, CF⟩ | ⟨hno, CF⟩
      · have hkn : k < n := by have := (List.getElem?_eq_some_iff.1 hk).1; have := unhide hA; omega
        have ck := (unhide X).c k hkn
        have fk := (unhide X).fz k
        have X2 := hide ((unhide X).set hkn)
        have I2 : Hid (FlI is F A ys (setF f k)) := hide ((unhide I).set fun x hx => by rw [hk] at hx; injection hx with hx; subst hx; exact .root (unhide hmem) ((unhide his y).2 (List.mem_of_getElem? hk)))
        have R2 : Hid (∀ (k' : Nat) x, A[k']? = some x → x ∈ ys.take (j + 1) → setF f k k' = true) := hide fun k' x hx hxm => by
          rw [unhide eT] at hxm
          rcases List.mem_append.1 hxm with e | e
          · exact setF_mono _ _ _ (unhide R k' x hx e)
          · simp at e
            subst e
            obtain ⟨q1, e1⟩ := List.getElem?_eq_some_iff.1 hk
            obtain ⟨q2, e2⟩ := List.getElem?_eq_some_iff.1 hx
            have : k' = k := by
              rcases Nat.lt_trichotomy k' k with h | h | h
              · have := List.pairwise_iff_getElem.1 (unhide hasc) k' k q2 q1 h; omega
              · exact h
              · have := List.pairwise_iff_getElem.1 (unhide hasc) k k' q1 q2 h; omega
            subst this
            exact setF_same _ _
        have CF' := hide CF
        have XG := hide (unhide X).g
        clear hk CF eT
        go_wp2_with fail
        go_region_held3 (fun wx => wx.cell? ⟨rk, 0, none⟩ = some (.pointer (some ⟨rb, 0, none⟩)) ∧ wx.cell? ⟨gy, oy + j, none⟩ = some (.int .i64 y)) (first | assumption | go_keep) ((go_at_call 48; refine (unhide CF' _ (by first | exact unhide XG | exact (unhide XG).trans (G.drew (G.refl _)))).mono ?_; rintro r w3 ⟨rfl, rfl⟩))
        all_goals
          go_wp2_with fail
          go_roundw
          case rel => exact ⟨j + 1, setF f k, by go_num, by omega, hide ((unhide X2).gr (G.drew (G.refl _))), I2, R2⟩
          case measure => simp [intOf]; omega
      · have R2 : Hid (∀ (k' : Nat) x, A[k']? = some x → x ∈ ys.take (j + 1) → f k' = true) := hide fun k' x hx hxm => by
          rw [unhide eT] at hxm
          rcases List.mem_append.1 hxm with e | e
          · exact unhide R k' x hx e
          · simp at e
            subst e
            exact absurd (List.mem_of_getElem? hx) hno
        have CF' := hide CF
        have XG := hide (unhide X).g
        clear hno CF eT
        go_wp2_with fail
        go_region_held3 (fun wx => wx.cell? ⟨rk, 0, none⟩ = some (.pointer (some ⟨rb, 0, none⟩)) ∧ wx.cell? ⟨gy, oy + j, none⟩ = some (.int .i64 y)) (first | assumption | go_keep) ((go_at_call 48; refine (unhide CF' _ (by first | exact unhide XG | exact (unhide XG).trans (G.drew (G.refl _)))).mono ?_; rintro r w3 ⟨rfl, rfl⟩))
        all_goals
          go_wp2_with fail
          go_roundw
          case rel => exact ⟨j + 1, f, by go_num, by omega, hide ((unhide X).gr (G.drew (G.refl _))), I, R2⟩
          case measure => simp [intOf]; omega
      --A>
    · obtain rfl : j = m := by omega
      have R0 : Hid (FlR A ys f) := hide fun k x hx hs => unhide R k x hx (by rw [List.take_of_length_le (by have := unhide hm; omega)]; exact hs)
      clear R
      go_wp2_with fail
      go_loopw [8] (fun v wr => ∃ (f : Nat → Bool) (ag : Bool), v = .bool ag ∧ Hid (FsB w wr fb n f) ∧ Hid (FlI is F A ys f) ∧ Hid (FlR A ys f) ∧ Hid (ag = false → ∀ k, k < n → Clo F A f k)) (fun v wr => 2 * unsetW wr fb n + agN v)
      case atStart => exact ⟨f, true, rfl, X, I, R0, hide fun h => by cases h⟩
      case round =>
        obtain ⟨f, ag, rfl, X, I, R, Cl⟩ := hrel
        clear R0
        cases ag with
        | true =>
          have P0 : Hid (Pass is F A ys n f f false 0) := hide ⟨unhide I, unhide R, (fun _ h => h), (fun h => by cases h), (fun _ => ⟨(fun _ _ => rfl), (fun k hk => by omega)⟩)⟩
          have hun := hide (unhide X).un
          obtain ⟨un, hun2⟩ : ∃ un, unsetW wr fb n = un := ⟨_, rfl⟩
          rw [hun2] at hun
          have hm0 : Hid (2 * unsetW wr fb n + agN (.bool true) = 2 * un + 1) := hide (by rw [hun2]; rfl)
          clear hun2 Cl I R
          go_wp2_with fail
          go_loopw [8, 9] (fun v c wr => ∃ (i : Nat) (f1 : Nat → Bool) (ag : Bool), v = .bool ag ∧ c = .int .i64 (i : Int) ∧ i ≤ n ∧ Hid (FsB w wr fb n f1) ∧ Hid (Pass is F A ys n f f1 ag i)) (fun _ c _ => n - (intOf c).toNat)
          case atStart => exact ⟨0, f, false, rfl, rfl, Nat.zero_le _, X, P0⟩
          case round =>
            obtain ⟨i, f1, ag, rfl, rfl, hi, X1, P⟩ := hrel
            clear X P0
            by_cases hlt2 : i < n
            · --<B
              have ci := (unhide X1).c i hlt2
              have lfb := (unhide X1).lt
              cases hfi : f1 i with
              | false =>
                rw [hfi] at ci
                have P2 := hide ((unhide P).next fun _ h => by rw [hfi] at h; cases h)
                go_wp2_with fail
                go_roundw
                case rel => exact ⟨i + 1, f1, ag, rfl, by go_num, by omega, X1, P2⟩
                case measure => simp [intOf]; omega
              | true =>
                rw [hfi] at ci
                obtain ⟨x, hx⟩ : ∃ x, A[i]? = some x := ⟨_, List.getElem?_eq_getElem (by have := unhide hA; omega)⟩
                obtain ⟨g, rfl, cx0⟩ := unhide ca i x hx
                have cx := G.cell (unhide X1).g cx0
                have d0 := G.cell (unhide X1).g c0
                have d1 := G.cell (unhide X1).g c1
                have CF := hide (unhide hF x _ (unhide X1).g)
                have hRx : Hid (Rch is F ys x) := hide ((unhide P).snd.sound i x hx hfi)
                have hx' := hide hx
                clear cx0 hfi
                go_wp2_with fail
                refine (unhide CF).mono ?_
                rintro r w3 ⟨lo2, lcap, rfl, RF, g3⟩
                have X3 := hide ((unhide X1).gr g3)
                have IF := hide RF.is
                have hN : Hid (fb ∉ Gy.blk lo2) := hide fun hd => by have h1 := (RF.lo fb hd).1; have h2 := (unhide X1).lt; omega
                obtain ⟨fl, hfl⟩ : ∃ fl, (F x).length = fl := ⟨_, rfl⟩
                have hfl' := hide hfl
                have hfl2 : fl ≤ 1000 := by rw [← hfl]; exact unhide hFl x
                rw [hfl]
                clear CF RF g3 hfl hx cx d0 d1 ci X1
                go_wp2_with fail
                go_loopw [8, 11] (fun v c wr => ∃ (q : Nat) (f2 : Nat → Bool) (ag2 : Bool), v = .bool ag2 ∧ c = .int .i64 (q : Int) ∧ q ≤ fl ∧ Hid (FsB w wr fb n f2) ∧ Hid (Gy.IsI wr lo2 (F x)) ∧ Hid (Pass is F A ys n f f2 ag2 i) ∧ Hid (FlC F A f2 i q)) (fun _ c _ => fl - (intOf c).toNat)
                case atStart => exact ⟨0, f1, ag, rfl, rfl, Nat.zero_le _, X3, IF, P, hide fun _ _ y hy => by simp at hy⟩
                case round =>
                  obtain ⟨q, f2, ag2, rfl, rfl, hq, X4, IF4, P4, C4⟩ := hrel
                  clear X3 IF P
                  by_cases hlt3 : q < fl
                  · --<C
                    obtain ⟨y, gy, oy, hy, rfl, cy⟩ := (unhide IF4).at_ (i := q) (by have := unhide hfl'; omega)
                    have cS := And.intro (G.cell (unhide X4).g c0) cy
                    have lrk' := World.block_lt_of_cell? _ _ cS.1
                    have lgy := World.block_lt_of_cell? _ _ cy
                    have eT := hide (take_snocI hy)
                    have hmem := hide (List.mem_of_getElem? hy)
                    have XG := hide (unhide X4).g
                    clear hy cy
                    rcases unhide hfd y with ⟨k, hk, CF⟩ | ⟨hno, CF⟩
                    · have hkn : k < n := by have := (List.getElem?_eq_some_iff.1 hk).1; have := unhide hA; omega
                      have ck := (unhide X4).c k hkn
                      have fk := (unhide X4).fz k
                      have lfb := (unhide X4).lt
                      have uniq : Hid (∀ k' : Nat, A[k']? = some y → k' = k) := hide fun k' hx => by
                        obtain ⟨q1, e1⟩ := List.getElem?_eq_some_iff.1 hk
                        obtain ⟨q2, e2⟩ := List.getElem?_eq_some_iff.1 hx
                        rcases Nat.lt_trichotomy k' k with h | h | h
                        · have := List.pairwise_iff_getElem.1 (unhide hasc) k' k q2 q1 h; omega
                        · exact h
                        · have := List.pairwise_iff_getElem.1 (unhide hasc) k k' q1 q2 h; omega
                      have hRy : Hid (Rch is F ys y) := hide (.step (unhide hRx) (unhide hmem) ((unhide his y).2 (List.mem_of_getElem? hk)))
                      have CF' := hide CF
                      have hk' := hide hk
                      clear CF hk
                      cases hfk : f2 k with
                      | false =>
                        rw [hfk] at ck
                        have X5 := hide ((unhide X4).set hkn)
                        have P5 := hide ((unhide P4).set hkn hfk fun x' hx' => by rw [unhide hk'] at hx'; injection hx' with hx'; rw [← hx']; exact unhide hRy)
                        have C5 : Hid (FlC F A (setF f2 k) i (q + 1)) := hide fun x' hx2 y' hy' j' hj' => by
                          have ex : x' = x := by rw [unhide hx'] at hx2; injection hx2 with hx2; exact hx2.symm
                          rw [ex, unhide eT] at hy'
                          rcases List.mem_append.1 hy' with e | e
                          · exact setF_mono _ _ _ (unhide C4 x' hx2 y' (by rw [ex]; exact e) j' hj')
                          · simp at e
                            rw [e] at hj'
                            rw [unhide uniq j' hj']
                            exact setF_same _ _
                        have I5 : Hid (Gy.IsI (wr.setCell ⟨fb, k, none⟩ (.bool true)) (some ⟨gy, oy, none⟩) (F x)) := hide (by
                          rcases unhide IF4 with h | ⟨b, off, e, h2, h3⟩
                          · exact Or.inl h
                          · have hb : b ≠ fb := fun e2 => unhide hN (by rw [e, e2]; simp [Gy.blk])
                            exact Or.inr ⟨b, off, e, by rw [World.size_setCell]; exact h2, fun i' x' hx' => by rw [cell_other _ (Or.inl hb)]; exact h3 i' x' hx'⟩)
                        clear eT C4 P4
                        go_wp2_with fail
                        go_region_held3 (fun wx => wx.cell? ⟨rk, 0, none⟩ = some (.pointer (some ⟨rb, 0, none⟩)) ∧ wx.cell? ⟨gy, oy + q, none⟩ = some (.int .i64 y)) (first | assumption | go_keep) ((go_at_call 48; refine (unhide CF' _ (by first | exact unhide XG | exact (unhide XG).trans (G.drew (G.refl _)))).mono ?_; rintro r w3 ⟨rfl, rfl⟩))
                        all_goals
                          go_wp2_with fail
                          go_roundw
                          case rel => exact ⟨q + 1, setF f2 k, true, rfl, by go_num, by omega, hide ((unhide X5).gr (G.drew (G.refl _))), hide ((unhide I5).g (G.drew (G.refl _))), P5, C5⟩
                          case measure => simp [intOf]; omega
                      | true =>
                        rw [hfk] at ck
                        have C5 : Hid (FlC F A f2 i (q + 1)) := hide fun x' hx2 y' hy' j' hj' => by
                          have ex : x' = x := by rw [unhide hx'] at hx2; injection hx2 with hx2; exact hx2.symm
                          rw [ex, unhide eT] at hy'
                          rcases List.mem_append.1 hy' with e | e
                          · exact unhide C4 x' hx2 y' (by rw [ex]; exact e) j' hj'
                          · simp at e
                            rw [e] at hj'
                            rw [unhide uniq j' hj']
                            exact hfk
                        clear eT C4
                        go_wp2_with fail
                        go_region_held3 (fun wx => wx.cell? ⟨rk, 0, none⟩ = some (.pointer (some ⟨rb, 0, none⟩)) ∧ wx.cell? ⟨gy, oy + q, none⟩ = some (.int .i64 y)) (first | assumption | go_keep) ((go_at_call 48; refine (unhide CF' _ (by first | exact unhide XG | exact (unhide XG).trans (G.drew (G.refl _)))).mono ?_; rintro r w3 ⟨rfl, rfl⟩))
                        all_goals
                          go_wp2_with fail
                          go_roundw
                          case rel => exact ⟨q + 1, f2, ag2, rfl, by go_num, by omega, hide ((unhide X4).gr (G.drew (G.refl _))), hide ((unhide IF4).g (G.drew (G.refl _))), P4, C5⟩
                          case measure => simp [intOf]; omega
                    · have C5 : Hid (FlC F A f2 i (q + 1)) := hide fun x' hx2 y' hy' j' hj' => by
                        have ex : x' = x := by rw [unhide hx'] at hx2; injection hx2 with hx2; exact hx2.symm
                        rw [ex, unhide eT] at hy'
                        rcases List.mem_append.1 hy' with e | e
                        · exact unhide C4 x' hx2 y' (by rw [ex]; exact e) j' hj'
                        · simp at e
                          rw [e] at hj'
                          exact absurd (List.mem_of_getElem? hj') hno
                      have CF' := hide CF
                      clear CF eT C4 hno
                      go_wp2_with fail
                      go_region_held3 (fun wx => wx.cell? ⟨rk, 0, none⟩ = some (.pointer (some ⟨rb, 0, none⟩)) ∧ wx.cell? ⟨gy, oy + q, none⟩ = some (.int .i64 y)) (first | assumption | go_keep) ((go_at_call 48; refine (unhide CF' _ (by first | exact unhide XG | exact (unhide XG).trans (G.drew (G.refl _)))).mono ?_; rintro r w3 ⟨rfl, rfl⟩))
                      all_goals
                        go_wp2_with fail
                        go_roundw
                        case rel => exact ⟨q + 1, f2, ag2, rfl, by go_num, by omega, hide ((unhide X4).gr (G.drew (G.refl _))), hide ((unhide IF4).g (G.drew (G.refl _))), P4, C5⟩
                        case measure => simp [intOf]; omega
                    --C>
                  · obtain rfl : q = fl := by omega
                    have P5 := hide ((unhide P4).next fun _ _ x' hx2 y' hy' j' hj' => by
                      have ex : x' = x := by rw [unhide hx'] at hx2; injection hx2 with hx2; exact hx2.symm
                      refine unhide C4 x' hx2 y' ?_ j' hj'
                      rw [List.take_of_length_le (by rw [ex, unhide hfl']; exact Nat.le_refl _)]
                      exact hy')
                    go_wp2_with fail
                    go_roundw
                    case rel => exact ⟨i + 1, f2, ag2, rfl, by go_num, by omega, X4, P5⟩
                    case measure => simp [intOf]; omega
              --B>
            · obtain rfl : i = n := by omega
              have hlow : Hid (2 * unsetW wr fb i + agN (.bool ag) < 2 * un + 1) := hide (by
                rw [(unhide X1).un, unhide hun]
                cases ag
                · rw [unset_eq ((unhide P).no rfl).1]; show 2 * unset f i + 0 < _; omega
                · have := (unhide P).yes rfl
                  show 2 * unset f1 i + 1 < _
                  omega)
              go_wp2_with fail
              go_roundw
              case rel => exact ⟨f1, ag, rfl, X1, hide (unhide P).snd, hide (unhide P).rts, hide fun h => ((unhide P).no h).2⟩
              case measure => rw [unhide hm0]; exact unhide hlow
        | false =>
          have hfin := hide (fun (k : Nat) x (hx : A[k]? = some x) => fl_done (unhide his) (unhide I) (unhide R) (fun k hk hf x hx y hy j hj => unhide Cl rfl k (by have := unhide hA; omega) hf x hx y hy j hj) hx)
          clear Cl I R
          go_wp2_with fail
          go_loopw [13, 14] (fun v c wr => ∃ (i p c2 : Nat) (ro : Option Addr), v = .slice ro p c2 ∧ c = .int .i64 (i : Int) ∧ i ≤ n ∧ Hid ((outL f A i).length = p) ∧ Hid (FsB w wr fb n f) ∧ Hid (Gy.RowW wr w.heap.size ro c2 (outL f A i)) ∧ Hid (fb ∉ Gy.blk ro)) (fun _ c _ => n - (intOf c).toNat)
          case atStart => exact ⟨0, 0, 0, none, rfl, rfl, Nat.zero_le _, hide rfl, X, hide (Gy.RowW.nil _ _), hide (by simp [Gy.blk])⟩
          case round =>
            obtain ⟨i, p, c2, ro, rfl, rfl, hi, hp, X1, R1, N1⟩ := hrel
            clear X
            by_cases hlt2 : i < n
            · --<D
              have ci := (unhide X1).c i hlt2
              have lfb := (unhide X1).lt
              cases hfi : f i with
              | false =>
                rw [hfi] at ci
                have e1 : Hid (outL f A (i + 1) = outL f A i) := hide (by rw [outL, if_neg (by rw [hfi]; simp)])
                go_wp2_with fail
                go_roundw
                case rel => exact ⟨i + 1, p, c2, ro, rfl, by go_num, by omega, hide (by rw [unhide e1]; exact unhide hp), X1, hide (by rw [unhide e1]; exact unhide R1), N1⟩
                case measure => simp [intOf]; omega
              | true =>
                rw [hfi] at ci
                obtain ⟨x, hx⟩ : ∃ x, A[i]? = some x := ⟨_, List.getElem?_eq_getElem (by have := unhide hA; omega)⟩
                obtain ⟨g, rfl, cx0⟩ := unhide ca i x hx
                have e1 : Hid (outL f A (i + 1) = outL f A i ++ [x]) := hide (by rw [outL, if_pos hfi, List.getD_eq_getElem?_getD, hx]; rfl)
                have cx := G.cell (unhide X1).g cx0
                have d0 := G.cell (unhide X1).g c0
                have d1 := G.cell (unhide X1).g c1
                have hpn : p ≤ 512 := by have := outL_len f A i; have := unhide hp; omega
                have X3 := hide ((unhide X1).gr (G.alloc wr (.cells #[.int .i64 x] 2)))
                have R3 := hide ((unhide R1).kept fun d hd => (G.alloc wr (.cells #[.int .i64 x] 2)).block d ((unhide R1).lo d hd).2)
                have hx3 : Hid ((wr.alloc (.cells #[.int .i64 x] 2)).cell? ⟨wr.heap.size, 0, none⟩ = some (.int .i64 x)) := hide (World.cell?_alloc_new _ _ _ 0)
                clear cx0 hx hfi
                go_wp2_with (at_builtin; refine Gy.wpl_app rfl _ _ rfl p (p + 1) (unhide hp) rfl rfl (unhide R3) (unhide X3).g.size wr.heap.size 1 x rfl (unhide hx3) (by have := unhide hp; omega) ?_; intro ro7 c7 w7 AP; have Y := (unhide X3).app (unhide N1) AP (unhide R3); have R7 := hide AP.1; clear AP X3 R3 hx3)
                go_roundw
                case rel => exact ⟨i + 1, p + 1, c7, ro7, rfl, by go_num, by omega, hide (by rw [unhide e1, List.length_append, unhide hp]; rfl), hide Y.1, hide (by rw [unhide e1]; exact unhide R7), hide Y.2⟩
                case measure => simp [intOf]; omega
              --D>
            · obtain rfl : i = n := by omega
              go_wp2_with fail
              go_returns
              refine ⟨ro, c2, outL f A i, by rw [unhide hp]; rfl, unhide R1, (unhide X1).g, outL_asc (unhide hasc) i (by have := unhide hA; omega), fun y => ?_⟩
              rw [outL_mem f A y i (by have := unhide hA; omega)]
              constructor
              · rintro ⟨k, _, h2, h3⟩; exact (unhide hfin k y h3).1 h2
              · intro h
                obtain ⟨k, hk⟩ := List.mem_iff_getElem?.1 ((unhide his y).1 h.taken)
                exact ⟨k, by have := (List.getElem?_eq_some_iff.1 hk).1; have := unhide hA; omega, (unhide hfin k y hk).2 h, hk⟩
end Go.Proofs.YtinehimleldkdaaGreatDoor

/- The document's own Reach, over both markers. -/
namespace Go.Proofs.YtinehimleldkdaaGreatDoor
set_option maxRecDepth 100000
open Go.ChangeShapes Go.WideShapes Go.ChangeAt Go.RowKit Go.Maps Go.Deep

theorem fs_start (w : World) (n : Nat) : FsB w (w.alloc (.cells (madeCells #[.bool false] (n * 1)) 4)) w.heap.size n fun _ => false := by
  have hb : (w.alloc (.cells (madeCells #[.bool false] (n * 1)) 4)).heap[w.heap.size]? = some (.cells (madeCells #[.bool false] (n * 1)) 4 (0, 0)) := heap_alloc_new w _
  obtain ⟨h1, h2⟩ := bools_at hb
  exact ⟨G.alloc _ _, Nat.le_refl _, by rw [World.size_alloc]; omega, h1, h2⟩

section
variable {W w w' : World} {L : Lc} {M1 M2 : Ms} {N : Nat} {E : List Nat}
theorem d_reach (h : Hid (MS W w L M1 M2 N E)) (hN : N ≤ 512) (hK : ∀ s ∈ M2.T, (s.k = 0 ∨ s.k = 1 ∨ s.k = 2 ∨ s.k = 3) ∧ s.m < 18446744073709551616) {bo : Option Addr} {cb m : Nat} {ys : List Int} (hm : ys.length = m) (hm5 : m ≤ 1000) (hI : Hid (Gy.IsI w bo ys)) :
    Calls Tryz.prog 19 #[.pointer (some ⟨L.rk, 0, none⟩), .slice bo m cb] w fun r w' => ∃ ao cap fnd, r = .returned (.slice ao fnd.length cap) ∧ Gy.RowW w' w.heap.size ao cap fnd ∧ G w w' ∧ Asc fnd ∧ ∀ y, y ∈ fnd ↔ Rch M2.al.a.is M2.flds ys y := by
  obtain ⟨e, hx⟩ := unhide h
  obtain ⟨r, cl, l, d⟩ := hx.bo.da
  have hl := d.ln
  have hlen : (things l).length = l.length := by unfold things; simp
  have hmem : ∀ y, M2.al.a.is y = true ↔ y ∈ (things l).map fun t => t.addr := fun y => by
    rw [d.rl.rel.mem d.good.ok y, List.mem_map]
  have hasc : Asc ((things l).map fun t => t.addr) := List.pairwise_map.2 d.rl.rel.up
  have hc1 := d.ref.c1
  rw [d.erb] at hc1
  refine dreach_core w L.rk L.x.rb r.lo bo l.length r.lc m cb ys ((things l).map fun t => t.addr) M2.al.a.is M2.flds (by omega) hm5 (hide (by rw [List.length_map, hlen])) (hide hm) _ (mk_bools l.length (by omega)) hx.dm.c0 hc1 (hide fun i x hi => ?_) (hide (fs_start w l.length)) (hide fun y => ?_) (hide fun x w1 g1 => d_fields (hide ((unhide h).gr g1)) (by omega) hK x) (hide fun x => by have := M2.flds_len x; omega) hI (hide hmem) (hide hasc)
  · rw [List.getElem?_map] at hi
    obtain ⟨t, ht, rfl⟩ := Option.map_eq_some_iff.1 hi
    obtain ⟨g, eg, hc⟩ := d.ref.addrs i t ht
    exact ⟨g, eg, hc⟩
  · rcases findI_cases (things l) y with ⟨e1, hn⟩ | ⟨i, t, e1, hi, ha⟩
    · refine Or.inr ⟨fun hy => ?_, fun w1 g1 => ?_⟩
      · obtain ⟨t, ht, e2⟩ := List.mem_map.1 hy
        exact hn t ht e2
      · have T := rfind_at (d.ref.grown g1) (by omega) y
        rw [d.erb, e1] at T
        exact T
    · refine Or.inl ⟨i, by rw [List.getElem?_map, hi]; simp [ha], fun w1 g1 => ?_⟩
      have T := rfind_at (d.ref.grown g1) (by omega) y
      rw [d.erb, e1] at T
      exact T
end
end Go.Proofs.YtinehimleldkdaaGreatDoor
