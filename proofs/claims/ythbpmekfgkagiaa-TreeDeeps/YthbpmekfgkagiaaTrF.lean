/- Package tree: what a pattern writes. -/
import Derived.Test.YthbpmekfgkagiaaTrB
import Derived.Lib.ConvBytes
import Derived.Lib.AtoiErrMem
import Derived.Deep.RegionHeld3
import Derived.Deep.DeepCutAuto
namespace Go.Proofs.Ythbpmekfgkagiaa
set_option maxRecDepth 100000
open Go.RowKit Go.Maps Go.ChangeShapes Go.WideShapes Go.ChangeAt Go.Deep

/-- A node's cells; what a call that writes answers. -/
abbrev ndL (k x : ByteArray) (a : Int) (kv : Value) : Array Value := #[.string k, .string x, .int .i64 a, kv]
abbrev wpost (b : Nat) (v : Value) (bs : List Value) (out : List UInt8) (w : World) : Ending → World → Prop := fun e w' => e = .returned (.tuple #[]) ∧ ∃ v', Bd b v' (bs ++ Lib.byteCells out) w' ∧ Kb b v w w' ∧ NewRow w v v'
def pieceP (x : List UInt8) (s : Nat → List UInt8) (sm : List UInt8) (c : UInt8) : List UInt8 := if c = 36 then x else if c = 48 then s 0 else if c = 49 then s 1 else if c = 50 then s 2 else if c = 42 then sm else [c]
def fillP (x : List UInt8) (s : Nat → List UInt8) (sm : List UInt8) (l : List UInt8) : List UInt8 := l.flatMap (pieceP x s sm)
theorem fillP_step (x : List UInt8) (s : Nat → List UInt8) (sm : List UInt8) (l : List UInt8) (i : Nat) (c : UInt8) (h : l[i]? = some c) : fillP x s sm (l.take (i + 1)) = fillP x s sm (l.take i) ++ pieceP x s sm c := by
  unfold fillP
  rw [List.take_add_one, h]
  simp
theorem fillP_pre (x : List UInt8) (s : Nat → List UInt8) (sm : List UInt8) (l : List UInt8) (i : Nat) : (fillP x s sm (l.take i)).length ≤ (fillP x s sm l).length := by
  unfold fillP
  conv => rhs; rw [← List.take_append_drop i l]
  rw [List.flatMap_append, List.length_append]
  omega
/-- All below B is as it was. -/
def LoK (B : Nat) (w y : World) : Prop := ∀ q, q < B → y.heap[q]? = w.heap[q]?
theorem LoK.refl (B : Nat) (w : World) : LoK B w w := fun _ _ => rfl
theorem LoK.kb {B b : Nat} {v : Value} {w y z : World} (h : LoK B w y) (k : Kb b v y z) (hb : B ≤ b) (hv : ∀ q, v.ownBlock = some q → B ≤ q) (hs : B ≤ y.heap.size) : LoK B w z := fun q hq =>
  (k.block q (by omega) (by omega) (fun e => by have := hv q e; omega)).trans (h q hq)
theorem LoK.g {B : Nat} {w y z : World} (h : LoK B w y) (g : G y z) (hs : B ≤ y.heap.size) : LoK B w z := fun q hq => (g.block q (by omega)).trans (h q hq)
theorem NewRow.lo {B : Nat} {w : World} {v v' : Value} (h : NewRow w v v') (hv : ∀ q, v.ownBlock = some q → B ≤ q) (hs : B ≤ w.heap.size) : ∀ q, v'.ownBlock = some q → B ≤ q := fun q hq => by
  rcases h with h | ⟨r, h1, h2⟩
  · exact hv q (h.symm.trans hq)
  · rw [h1] at hq; cases hq; omega
/-- A kid that may be written: it lies below B. -/
def KidC (B b : Nat) (above : Int) (w : World) (g off j : Nat) (out : List UInt8) : Prop := g < B ∧ ∃ k x a kv, (∀ i u, (ndL k x a kv)[i]? = some u → w.cell? ⟨g, off + j * 4 + i, none⟩ = some u) ∧ ∀ y v bs, LoK B w y → B ≤ y.heap.size → Bd b v bs y → (∀ q, v.ownBlock = some q → B ≤ q) → bs.length + out.length ≤ 140737488355328 → Calls Try.prog 15 #[.agg #[.pointer (some ⟨b, 0, none⟩), .int .i64 above], .agg (ndL k x a kv)] y (wpost b v bs out y)
set_option maxHeartbeats 4000000 in
theorem fill_any (w : World) (B b : Nat) (v : Value) (bs : List Value) (above : Int) (k x : ByteArray) (a : Int) (kg : Option Addr) (kn kc : Nat) (pt : ByteArray) (s : Nat → List UInt8) (sm : List UInt8)
    (ha : 0 ≤ above) (ha2 : above ≤ 1000000) (hb : Bd b v bs w) (hB : B ≤ b) (hv : ∀ q, v.ownBlock = some q → B ≤ q) (hBw : B ≤ w.heap.size) (hlen : bs.length + (fillP x.data.toList s sm pt.data.toList).length ≤ 140737488355328) (hpt : pt.size ≤ 1000)
    (HK : ∀ j, j < 3 → UInt8.ofNat (48 + j) ∈ pt.data.toList → j < kn ∧ ∃ g off, kg = some ⟨g, off, none⟩ ∧ KidC B b (above + 1) w g off j (s j))
    (HM : (42 : UInt8) ∈ pt.data.toList → ∀ y v bs, LoK B w y → B ≤ y.heap.size → Bd b v bs y → (∀ q, v.ownBlock = some q → B ≤ q) → bs.length + sm.length ≤ 140737488355328 → Calls Try.prog 39 #[.agg #[.pointer (some ⟨b, 0, none⟩), .int .i64 (above + 1)], .agg (ndL k x a (.slice kg kn kc))] y (wpost b v bs sm y)) :
    Calls Try.prog 21 #[.agg #[.pointer (some ⟨b, 0, none⟩), .int .i64 above], .agg (ndL k x a (.slice kg kn kc)), .string pt] w (wpost b v bs (fillP x.data.toList s sm pt.data.toList) w) := by
  have e1 : wrap64 (above + 1) = above + 1 := by unfold wrap64; omega
  have hpl : pt.data.toList.length = pt.size := Array.length_toList
  obtain ⟨pl, hpl2⟩ : ∃ pl, pl = pt.data.toList := ⟨_, rfl⟩
  obtain ⟨xl, hxl⟩ : ∃ xl, xl = x.data.toList := ⟨_, rfl⟩
  have hx1 : xl.length = x.size := by rw [hxl]; exact Array.length_toList
  have hx2 : Lib.byteCells xl = Lib.strCells x := by rw [hxl]; rfl
  rw [← hpl2] at HK HM hlen hpl ⊢
  rw [← hxl] at hlen ⊢
  obtain ⟨W3, hW3⟩ : ∃ W3, W3 = ((w.alloc (.cells #[.pointer (some ⟨b, 0, none⟩), .int .i64 above] 44)).alloc (.cells #[.string k, .string x, .int .i64 a, .slice kg kn kc] 26)).alloc (.cells #[.pointer (some ⟨b, 0, none⟩), .int .i64 (above + 1)] 44) := ⟨_, rfl⟩
  have g3 : G w W3 := by rw [hW3]; exact ((G.alloc _ _).more _).more _
  have z3 : W3.heap.size = w.heap.size + 3 := by rw [hW3, World.size_alloc, World.size_alloc, World.size_alloc]
  have a0 : ∀ i u, #[Value.pointer (some ⟨b, 0, none⟩), .int .i64 above][i]? = some u → W3.cell? ⟨w.heap.size, i, none⟩ = some u := fun i u h => by
    rw [hW3, World.cell?_alloc_past _ _ _ (by rw [World.size_alloc, World.size_alloc]; show w.heap.size < _; omega), World.cell?_alloc_past _ _ _ (by rw [World.size_alloc]; show w.heap.size < _; omega), World.cell?_alloc_new]; exact h
  have a1 : ∀ i u, #[Value.string k, .string x, .int .i64 a, .slice kg kn kc][i]? = some u → W3.cell? ⟨w.heap.size + 1, i, none⟩ = some u := fun i u h => by
    rw [hW3, World.cell?_alloc_past _ _ _ (by rw [World.size_alloc, World.size_alloc]; show w.heap.size + 1 < _; omega), World.cell?_alloc_at _ _ _ _ (by rw [World.size_alloc])]; exact h
  have a2 : ∀ i u, #[Value.pointer (some ⟨b, 0, none⟩), .int .i64 (above + 1)][i]? = some u → W3.cell? ⟨w.heap.size + 2, i, none⟩ = some u := fun i u h => by
    rw [hW3, World.cell?_alloc_at _ _ _ _ (by rw [World.size_alloc, World.size_alloc])]; exact h
  have hcv := Lib.run_convert_string_bytes (P := Try.prog) W3 9 40 5 pt (u := .string) Try.underlying9 Try.underlying40 Try.underlying5
  go_enter Try.func21, Try.ntmps21
  go_upto_region 2 with fail
  rw [← hW3]
  have gW : G W3 (Lib.bytesWorld W3 5 pt) := Lib.bytesWorld_below W3 _ pt
  have hrow : ∀ j, j < pt.size → (Lib.bytesWorld W3 5 pt).cell? ⟨W3.heap.size, j, none⟩ = some (.int .u8 (pt.data.toList.getD j 0).toNat) := fun j hj => Lib.bytesWorld_cell W3 _ pt j hj
  have zW := Lib.bytesWorld_size W3 5 pt
  have hbl := hb.lt
  have hvl : ∀ q, v.ownBlock = some q → q < w.heap.size := fun q hq => (hb.row q hq).1
  have hbW := hb.g (g3.trans gW)
  have kW : Kb b v w (Lib.bytesWorld W3 5 pt) := Kb.of_g (g3.trans gW)
  have loW : LoK B w (Lib.bytesWorld W3 5 pt) := (LoK.refl B w).g (g3.trans gW) hBw
  rw [z3] at hcv hrow
  rw [← hpl2] at hrow
  generalize Lib.bytesWorld W3 5 pt = W at *
  have c00 := gW.cell (a0 0 _ rfl)
  have c01 := gW.cell (a0 1 _ rfl)
  have c10 := gW.cell (a1 0 _ rfl)
  have c11 := gW.cell (a1 1 _ rfl)
  have c12 := gW.cell (a1 2 _ rfl)
  have c13 := gW.cell (a1 3 _ rfl)
  have c20 := gW.cell (a2 0 _ rfl)
  have c21 := gW.cell (a2 1 _ rfl)
  have FA : Hid (∀ y, Kb b v W y → y.cell? ⟨w.heap.size, 0, none⟩ = some (.pointer (some ⟨b, 0, none⟩)) ∧ y.cell? ⟨w.heap.size, 1, none⟩ = some (.int .i64 above) ∧ y.cell? ⟨w.heap.size + 1, 0, none⟩ = some (.string k) ∧ y.cell? ⟨w.heap.size + 1, 1, none⟩ = some (.string x) ∧ y.cell? ⟨w.heap.size + 1, 2, none⟩ = some (.int .i64 a) ∧ y.cell? ⟨w.heap.size + 1, 3, none⟩ = some (.slice kg kn kc) ∧ y.cell? ⟨w.heap.size + 2, 0, none⟩ = some (.pointer (some ⟨b, 0, none⟩)) ∧ y.cell? ⟨w.heap.size + 2, 1, none⟩ = some (.int .i64 (above + 1)) ∧ ∀ j, j < pt.size → y.cell? ⟨w.heap.size + 3, j, none⟩ = some (.int .u8 (pl.getD j 0).toNat)) := hide fun y ky => by
    have hk : ∀ q i u, w.heap.size ≤ q → q < W.heap.size → W.cell? ⟨q, i, none⟩ = some u → y.cell? ⟨q, i, none⟩ = some u := fun q i u h1 h2 h3 => (World.cell?_of_block (a := ⟨q, i, none⟩) (ky.block q h2 (by omega) (fun e => by have := hvl q e; omega))).trans h3
    exact ⟨hk _ _ _ (by omega) (by omega) c00, hk _ _ _ (by omega) (by omega) c01, hk _ _ _ (by omega) (by omega) c10, hk _ _ _ (by omega) (by omega) c11, hk _ _ _ (by omega) (by omega) c12, hk _ _ _ (by omega) (by omega) c13, hk _ _ _ (by omega) (by omega) c20, hk _ _ _ (by omega) (by omega) c21, fun j hj => hk _ _ _ (by omega) (by omega) (hrow j hj)⟩
  have hBW : B ≤ W.heap.size := by omega
  have st : Hid (∃ v', Bd b v' (bs ++ Lib.byteCells (fillP xl s sm (pl.take 0))) W ∧ Kb b v W W ∧ NewRow W v v') := hide ⟨v, by rw [List.take_zero, show bs ++ Lib.byteCells (fillP xl s sm []) = bs from List.append_nil _]; exact hbW, Kb.of_g (G.refl _), Or.inl rfl⟩
  have FIN : Hid (∀ y, (∃ v', Bd b v' (bs ++ Lib.byteCells (fillP xl s sm (pl.take pt.size))) y ∧ Kb b v W y ∧ NewRow W v v') → wpost b v bs (fillP xl s sm pl) w (.returned (.tuple #[])) y) := hide fun y h => by
    obtain ⟨v', h1, h2, h3⟩ := h
    rw [List.take_of_length_le (by omega)] at h1
    exact ⟨rfl, v', h1, kW.trans (Or.inl rfl) h2, (show NewRow w v v from Or.inl rfl).trans h3 kW.size⟩
  replace hlen := hide hlen
  replace HK := hide HK
  replace HM := hide HM
  replace hv := hide hv
  replace hvl := hide hvl
  replace loW := hide loW
  clear a0 a1 a2 hrow c00 c01 c10 c11 c12 c13 c20 c21 hbW hb kW gW g3 hW3 z3 zW
  go_wp2_with fail
  go_loopw [8, 18] (fun _ i wr => ∃ n : Nat, n ≤ pt.size ∧ i = .int .i64 (n : Int) ∧ Hid (∃ v', Bd b v' (bs ++ Lib.byteCells (fillP xl s sm (pl.take n))) wr ∧ Kb b v W wr ∧ NewRow W v v')) (fun _ i _ => pt.size - (intOf i).toNat)
  case atStart => exact ⟨0, Nat.zero_le _, rfl, st⟩
  case round =>
    obtain ⟨n, hn, rfl, hh⟩ := hrel
    by_cases hlt : n < pt.size
    · obtain ⟨v', h1, h2, h3⟩ := unhide hh
      obtain ⟨f00, f01, f10, f11, f12, f13, f20, f21, frow⟩ := unhide FA wr h2
      have hc : pl[n]? = some (pl.getD n 0) := by
        rw [List.getD_eq_getElem?_getD, List.getElem?_eq_getElem (by omega)]; rfl
      have fr := frow n hlt
      have hst := fillP_step xl s sm pl n _ hc
      have hmem : pl.getD n 0 ∈ pl := List.mem_of_getElem? hc
      have hlen2 : bs.length + (fillP xl s sm (pl.take (n + 1))).length ≤ 140737488355328 := by
        have := fillP_pre xl s sm pl (n + 1)
        have := unhide hlen
        omega
      have hv' := h3.lo (unhide hv) hBW
      have lo' := (unhide loW).kb h2 hB (unhide hv) hBW
      have hs' : B ≤ wr.heap.size := Nat.le_trans hBW h2.size
      generalize pl.getD n 0 = c at *
      have KP : Hid (∀ y v2, Bd b v2 (bs ++ Lib.byteCells (fillP xl s sm (pl.take n)) ++ Lib.byteCells (pieceP xl s sm c)) y → Kb b v' wr y → NewRow wr v' v2 → ∃ v'', Bd b v'' (bs ++ Lib.byteCells (fillP xl s sm (pl.take (n + 1)))) y ∧ Kb b v W y ∧ NewRow W v v'') := hide fun y v2 q1 q2 q3 => ⟨v2, by rw [hst, show Lib.byteCells (fillP xl s sm (pl.take n) ++ pieceP xl s sm c) = Lib.byteCells (fillP xl s sm (pl.take n)) ++ Lib.byteCells (pieceP xl s sm c) from List.map_append, ← List.append_assoc]; exact q1, h2.trans h3 q2, h3.trans q3 h2.size⟩
      have hl3 : Hid ((bs ++ Lib.byteCells (fillP xl s sm (pl.take n))).length + (pieceP xl s sm c).length ≤ 140737488355328) := hide (by
        rw [hst, List.length_append] at hlen2
        rw [List.length_append, Lib.byteCells_length]
        omega)
      clear hst hlen2 frow
      replace hc := hide hc
      replace hmem := hide hmem
      replace h1 := hide h1
      replace h2 := hide h2
      replace h3 := hide h3
      replace hv' := hide hv'
      replace lo' := hide lo'
      clear hh
      have h6 : c = 36 ∨ c = 48 ∨ c = 49 ∨ c = 50 ∨ c = 42 ∨ (c ≠ 36 ∧ c ≠ 48 ∧ c ≠ 49 ∧ c ≠ 50 ∧ c ≠ 42) := by
        by_cases a1 : c = 36
        · exact Or.inl a1
        by_cases a2 : c = 48
        · exact Or.inr (Or.inl a2)
        by_cases a3 : c = 49
        · exact Or.inr (Or.inr (Or.inl a3))
        by_cases a4 : c = 50
        · exact Or.inr (Or.inr (Or.inr (Or.inl a4)))
        by_cases a5 : c = 42
        · exact Or.inr (Or.inr (Or.inr (Or.inr (Or.inl a5))))
        exact Or.inr (Or.inr (Or.inr (Or.inr (Or.inr ⟨a1, a2, a3, a4, a5⟩))))
      rcases h6 with h36 | h48 | h49 | h50 | h42 | h0
      · subst h36
        have CW := hide (wstr_any b v' _ x wr (unhide h1) (by have := unhide hl3; rw [show pieceP xl s sm 36 = xl from rfl, hx1] at this; exact this))
        have fr' : wr.cell? ⟨w.heap.size + 3, n, none⟩ = some (.int .u8 36) := fr
        clear fr
        go_wp2_with fail
        refine (unhide CW).mono ?_
        rintro e w' ⟨rfl, v2, q1, q2, q3⟩
        have K := hide (unhide KP w' v2 (by rw [show pieceP xl s sm 36 = xl from rfl, hx2]; exact q1) q2 q3)
        clear q1 q2 q3 CW
        go_wp2_with fail
        go_roundw
        case rel => exact ⟨n + 1, by omega, by go_num, K⟩
        case measure => simp [intOf]; omega
      · subst h48
        obtain ⟨hkn, g, off, rfl, hgB, kk, kx, ka, kkv, kcs, KN⟩ := unhide HK 0 (by omega) (unhide hmem)
        have fr' : wr.cell? ⟨w.heap.size + 3, n, none⟩ = some (.int .u8 48) := fr
        have hki : (0 : Int) < (kn : Int) := by omega
        have hdi : decide ((0 : Int) < (kn : Int)) = true := decide_eq_true hki
        have hw : IntKind.u8.wrap ((48 : Int) - 48) = 0 := by decide
        have hw2 : IntKind.u8.wrap 0 = 0 := by decide
        have kq : ∀ i u, (ndL kk kx ka kkv)[i]? = some u → wr.cell? ⟨g, off + 0 + i, none⟩ = some u := fun i u hu => (World.cell?_of_block (a := ⟨g, off + 0 + i, none⟩) (unhide lo' g hgB)).trans (by simpa using kcs i u hu)
        have q0 := kq 0 _ rfl
        have q1 := kq 1 _ rfl
        have q2 := kq 2 _ rfl
        have q3 := kq 3 _ rfl
        simp only [Nat.add_zero] at q0 q1 q2 q3
        have I0 : wr.cell? ⟨w.heap.size + 2, 0, none⟩ = some (.pointer (some ⟨b, 0, none⟩)) ∧ wr.cell? ⟨w.heap.size + 2, 1, none⟩ = some (.int .i64 (above + 1)) ∧ wr.cell? ⟨w.heap.size + 1, 3, none⟩ = some (.slice (some ⟨g, off, none⟩) kn kc) ∧ wr.cell? ⟨g, off, none⟩ = some (.string kk) ∧ wr.cell? ⟨g, off + 1, none⟩ = some (.string kx) ∧ wr.cell? ⟨g, off + 2, none⟩ = some (.int .i64 ka) ∧ wr.cell? ⟨g, off + 3, none⟩ = some kkv := ⟨f20, f21, f13, q0, q1, q2, q3⟩
        have KD := hide (show wr.drew.cell? ⟨w.heap.size + 2, 0, none⟩ = some (.pointer (some ⟨b, 0, none⟩)) ∧ wr.drew.cell? ⟨w.heap.size + 2, 1, none⟩ = some (.int .i64 (above + 1)) ∧ wr.drew.cell? ⟨w.heap.size + 1, 3, none⟩ = some (.slice (some ⟨g, off, none⟩) kn kc) ∧ wr.drew.cell? ⟨g, off, none⟩ = some (.string kk) ∧ wr.drew.cell? ⟨g, off + 1, none⟩ = some (.string kx) ∧ wr.drew.cell? ⟨g, off + 2, none⟩ = some (.int .i64 ka) ∧ wr.drew.cell? ⟨g, off + 3, none⟩ = some kkv from I0)
        have hkt : Hid (∀ y, Kb b v' wr.drew y → y.cell? ⟨w.heap.size + 2, 0, none⟩ = some (.pointer (some ⟨b, 0, none⟩)) ∧ y.cell? ⟨w.heap.size + 2, 1, none⟩ = some (.int .i64 (above + 1)) ∧ y.cell? ⟨w.heap.size + 1, 3, none⟩ = some (.slice (some ⟨g, off, none⟩) kn kc) ∧ y.cell? ⟨g, off, none⟩ = some (.string kk) ∧ y.cell? ⟨g, off + 1, none⟩ = some (.string kx) ∧ y.cell? ⟨g, off + 2, none⟩ = some (.int .i64 ka) ∧ y.cell? ⟨g, off + 3, none⟩ = some kkv) := hide fun y ky => by
          obtain ⟨-, -, -, -, -, f13', f20', f21', -⟩ := unhide FA y ((unhide h2).trans (unhide h3) (Kb.trans (Kb.of_g (G.refl wr)) (Or.inl rfl) ⟨ky.os, ky.tape, ky.output, ky.size, ky.block⟩))
          have lo2 : LoK B w y := (unhide lo').kb (y := wr) ⟨ky.os, ky.tape, ky.output, ky.size, ky.block⟩ hB (unhide hv') hs'
          have kq2 : ∀ i u, (ndL kk kx ka kkv)[i]? = some u → y.cell? ⟨g, off + 0 + i, none⟩ = some u := fun i u hu => (World.cell?_of_block (a := ⟨g, off + 0 + i, none⟩) (lo2 g hgB)).trans (by simpa using kcs i u hu)
          have r0 := kq2 0 _ rfl
          have r1 := kq2 1 _ rfl
          have r2 := kq2 2 _ rfl
          have r3 := kq2 3 _ rfl
          simp only [Nat.add_zero] at r0 r1 r2 r3
          exact ⟨f20', f21', f13', r0, r1, r2, r3⟩
        have CN : Hid (Calls Try.prog 15 #[.agg #[.pointer (some ⟨b, 0, none⟩), .int .i64 (above + 1)], .agg #[.string kk, .string kx, .int .i64 ka, kkv]] wr.drew fun e w' => e = .returned (.tuple #[]) ∧ Hid (∃ v'', Bd b v'' (bs ++ Lib.byteCells (fillP xl s sm (pl.take (n + 1)))) w' ∧ Kb b v W w' ∧ NewRow W v v'') ∧ (w'.cell? ⟨w.heap.size + 2, 0, none⟩ = some (.pointer (some ⟨b, 0, none⟩)) ∧ w'.cell? ⟨w.heap.size + 2, 1, none⟩ = some (.int .i64 (above + 1)) ∧ w'.cell? ⟨w.heap.size + 1, 3, none⟩ = some (.slice (some ⟨g, off, none⟩) kn kc) ∧ w'.cell? ⟨g, off, none⟩ = some (.string kk) ∧ w'.cell? ⟨g, off + 1, none⟩ = some (.string kx) ∧ w'.cell? ⟨g, off + 2, none⟩ = some (.int .i64 ka) ∧ w'.cell? ⟨g, off + 3, none⟩ = some kkv)) := hide (by
          refine (KN wr.drew v' _ (fun q hq => unhide lo' q hq) hs' ((unhide h1).g ((G.refl wr).drew)) (unhide hv') (by have := unhide hl3; rw [show pieceP xl s sm 48 = s 0 from rfl] at this; exact this)).mono ?_
          rintro e w' ⟨rfl, v2, y1, y2, y3⟩
          exact ⟨rfl, hide (unhide KP w' v2 y1 ⟨y2.os, y2.tape, y2.output, y2.size, y2.block⟩ y3), unhide hkt w' y2⟩)
        clear fr kq q0 q1 q2 q3 KN kcs HK HM hkt KP
        go_wp2_with fail
        go_region_held3 (fun y => y.cell? ⟨w.heap.size + 2, 0, none⟩ = some (.pointer (some ⟨b, 0, none⟩)) ∧ y.cell? ⟨w.heap.size + 2, 1, none⟩ = some (.int .i64 (above + 1)) ∧ y.cell? ⟨w.heap.size + 1, 3, none⟩ = some (.slice (some ⟨g, off, none⟩) kn kc) ∧ y.cell? ⟨g, off, none⟩ = some (.string kk) ∧ y.cell? ⟨g, off + 1, none⟩ = some (.string kx) ∧ y.cell? ⟨g, off + 2, none⟩ = some (.int .i64 ka) ∧ y.cell? ⟨g, off + 3, none⟩ = some kkv)
          (first | assumption | exact unhide KD)
          ((go_at_call 15; refine (unhide CN).mono ?_; rintro e w' ⟨rfl, K, I2⟩))
        all_goals
          go_wp2_with fail
          go_roundw
          case rel => exact ⟨n + 1, by omega, by go_num, K⟩
          case measure => simp [intOf]; omega
      · subst h49
        obtain ⟨hkn, g, off, rfl, hgB, kk, kx, ka, kkv, kcs, KN⟩ := unhide HK 1 (by omega) (unhide hmem)
        have fr' : wr.cell? ⟨w.heap.size + 3, n, none⟩ = some (.int .u8 49) := fr
        have hki : (1 : Int) < (kn : Int) := by omega
        have hdi : decide ((1 : Int) < (kn : Int)) = true := decide_eq_true hki
        have hw : IntKind.u8.wrap ((49 : Int) - 48) = 1 := by decide
        have hw2 : IntKind.u8.wrap 1 = 1 := by decide
        have kq : ∀ i u, (ndL kk kx ka kkv)[i]? = some u → wr.cell? ⟨g, off + 4 + i, none⟩ = some u := fun i u hu => (World.cell?_of_block (a := ⟨g, off + 4 + i, none⟩) (unhide lo' g hgB)).trans (by simpa using kcs i u hu)
        have q0 := kq 0 _ rfl
        have q1 := kq 1 _ rfl
        have q2 := kq 2 _ rfl
        have q3 := kq 3 _ rfl
        simp only [Nat.add_zero, Nat.add_assoc, Nat.reduceAdd] at q0 q1 q2 q3
        have I0 : wr.cell? ⟨w.heap.size + 2, 0, none⟩ = some (.pointer (some ⟨b, 0, none⟩)) ∧ wr.cell? ⟨w.heap.size + 2, 1, none⟩ = some (.int .i64 (above + 1)) ∧ wr.cell? ⟨w.heap.size + 1, 3, none⟩ = some (.slice (some ⟨g, off, none⟩) kn kc) ∧ wr.cell? ⟨g, off + 4, none⟩ = some (.string kk) ∧ wr.cell? ⟨g, off + 5, none⟩ = some (.string kx) ∧ wr.cell? ⟨g, off + 6, none⟩ = some (.int .i64 ka) ∧ wr.cell? ⟨g, off + 7, none⟩ = some kkv := ⟨f20, f21, f13, q0, q1, q2, q3⟩
        have KD := hide (show wr.drew.cell? ⟨w.heap.size + 2, 0, none⟩ = some (.pointer (some ⟨b, 0, none⟩)) ∧ wr.drew.cell? ⟨w.heap.size + 2, 1, none⟩ = some (.int .i64 (above + 1)) ∧ wr.drew.cell? ⟨w.heap.size + 1, 3, none⟩ = some (.slice (some ⟨g, off, none⟩) kn kc) ∧ wr.drew.cell? ⟨g, off + 4, none⟩ = some (.string kk) ∧ wr.drew.cell? ⟨g, off + 5, none⟩ = some (.string kx) ∧ wr.drew.cell? ⟨g, off + 6, none⟩ = some (.int .i64 ka) ∧ wr.drew.cell? ⟨g, off + 7, none⟩ = some kkv from I0)
        have hkt : Hid (∀ y, Kb b v' wr.drew y → y.cell? ⟨w.heap.size + 2, 0, none⟩ = some (.pointer (some ⟨b, 0, none⟩)) ∧ y.cell? ⟨w.heap.size + 2, 1, none⟩ = some (.int .i64 (above + 1)) ∧ y.cell? ⟨w.heap.size + 1, 3, none⟩ = some (.slice (some ⟨g, off, none⟩) kn kc) ∧ y.cell? ⟨g, off + 4, none⟩ = some (.string kk) ∧ y.cell? ⟨g, off + 5, none⟩ = some (.string kx) ∧ y.cell? ⟨g, off + 6, none⟩ = some (.int .i64 ka) ∧ y.cell? ⟨g, off + 7, none⟩ = some kkv) := hide fun y ky => by
          obtain ⟨-, -, -, -, -, f13', f20', f21', -⟩ := unhide FA y ((unhide h2).trans (unhide h3) (Kb.trans (Kb.of_g (G.refl wr)) (Or.inl rfl) ⟨ky.os, ky.tape, ky.output, ky.size, ky.block⟩))
          have lo2 : LoK B w y := (unhide lo').kb (y := wr) ⟨ky.os, ky.tape, ky.output, ky.size, ky.block⟩ hB (unhide hv') hs'
          have kq2 : ∀ i u, (ndL kk kx ka kkv)[i]? = some u → y.cell? ⟨g, off + 4 + i, none⟩ = some u := fun i u hu => (World.cell?_of_block (a := ⟨g, off + 4 + i, none⟩) (lo2 g hgB)).trans (by simpa using kcs i u hu)
          have r0 := kq2 0 _ rfl
          have r1 := kq2 1 _ rfl
          have r2 := kq2 2 _ rfl
          have r3 := kq2 3 _ rfl
          simp only [Nat.add_zero, Nat.add_assoc, Nat.reduceAdd] at r0 r1 r2 r3
          exact ⟨f20', f21', f13', r0, r1, r2, r3⟩
        have CN : Hid (Calls Try.prog 15 #[.agg #[.pointer (some ⟨b, 0, none⟩), .int .i64 (above + 1)], .agg #[.string kk, .string kx, .int .i64 ka, kkv]] wr.drew fun e w' => e = .returned (.tuple #[]) ∧ Hid (∃ v'', Bd b v'' (bs ++ Lib.byteCells (fillP xl s sm (pl.take (n + 1)))) w' ∧ Kb b v W w' ∧ NewRow W v v'') ∧ (w'.cell? ⟨w.heap.size + 2, 0, none⟩ = some (.pointer (some ⟨b, 0, none⟩)) ∧ w'.cell? ⟨w.heap.size + 2, 1, none⟩ = some (.int .i64 (above + 1)) ∧ w'.cell? ⟨w.heap.size + 1, 3, none⟩ = some (.slice (some ⟨g, off, none⟩) kn kc) ∧ w'.cell? ⟨g, off + 4, none⟩ = some (.string kk) ∧ w'.cell? ⟨g, off + 5, none⟩ = some (.string kx) ∧ w'.cell? ⟨g, off + 6, none⟩ = some (.int .i64 ka) ∧ w'.cell? ⟨g, off + 7, none⟩ = some kkv)) := hide (by
          refine (KN wr.drew v' _ (fun q hq => unhide lo' q hq) hs' ((unhide h1).g ((G.refl wr).drew)) (unhide hv') (by have := unhide hl3; rw [show pieceP xl s sm 49 = s 1 from rfl] at this; exact this)).mono ?_
          rintro e w' ⟨rfl, v2, y1, y2, y3⟩
          exact ⟨rfl, hide (unhide KP w' v2 y1 ⟨y2.os, y2.tape, y2.output, y2.size, y2.block⟩ y3), unhide hkt w' y2⟩)
        clear fr kq q0 q1 q2 q3 KN kcs HK HM hkt KP
        go_wp2_with fail
        go_region_held3 (fun y => y.cell? ⟨w.heap.size + 2, 0, none⟩ = some (.pointer (some ⟨b, 0, none⟩)) ∧ y.cell? ⟨w.heap.size + 2, 1, none⟩ = some (.int .i64 (above + 1)) ∧ y.cell? ⟨w.heap.size + 1, 3, none⟩ = some (.slice (some ⟨g, off, none⟩) kn kc) ∧ y.cell? ⟨g, off + 4, none⟩ = some (.string kk) ∧ y.cell? ⟨g, off + 5, none⟩ = some (.string kx) ∧ y.cell? ⟨g, off + 6, none⟩ = some (.int .i64 ka) ∧ y.cell? ⟨g, off + 7, none⟩ = some kkv)
          (first | assumption | exact unhide KD)
          ((go_at_call 15; refine (unhide CN).mono ?_; rintro e w' ⟨rfl, K, I2⟩))
        all_goals
          go_wp2_with fail
          go_roundw
          case rel => exact ⟨n + 1, by omega, by go_num, K⟩
          case measure => simp [intOf]; omega
      · subst h50
        obtain ⟨hkn, g, off, rfl, hgB, kk, kx, ka, kkv, kcs, KN⟩ := unhide HK 2 (by omega) (unhide hmem)
        have fr' : wr.cell? ⟨w.heap.size + 3, n, none⟩ = some (.int .u8 50) := fr
        have hki : (2 : Int) < (kn : Int) := by omega
        have hdi : decide ((2 : Int) < (kn : Int)) = true := decide_eq_true hki
        have hw : IntKind.u8.wrap ((50 : Int) - 48) = 2 := by decide
        have hw2 : IntKind.u8.wrap 2 = 2 := by decide
        have kq : ∀ i u, (ndL kk kx ka kkv)[i]? = some u → wr.cell? ⟨g, off + 8 + i, none⟩ = some u := fun i u hu => (World.cell?_of_block (a := ⟨g, off + 8 + i, none⟩) (unhide lo' g hgB)).trans (by simpa using kcs i u hu)
        have q0 := kq 0 _ rfl
        have q1 := kq 1 _ rfl
        have q2 := kq 2 _ rfl
        have q3 := kq 3 _ rfl
        simp only [Nat.add_zero, Nat.add_assoc, Nat.reduceAdd] at q0 q1 q2 q3
        have I0 : wr.cell? ⟨w.heap.size + 2, 0, none⟩ = some (.pointer (some ⟨b, 0, none⟩)) ∧ wr.cell? ⟨w.heap.size + 2, 1, none⟩ = some (.int .i64 (above + 1)) ∧ wr.cell? ⟨w.heap.size + 1, 3, none⟩ = some (.slice (some ⟨g, off, none⟩) kn kc) ∧ wr.cell? ⟨g, off + 8, none⟩ = some (.string kk) ∧ wr.cell? ⟨g, off + 9, none⟩ = some (.string kx) ∧ wr.cell? ⟨g, off + 10, none⟩ = some (.int .i64 ka) ∧ wr.cell? ⟨g, off + 11, none⟩ = some kkv := ⟨f20, f21, f13, q0, q1, q2, q3⟩
        have KD := hide (show wr.drew.cell? ⟨w.heap.size + 2, 0, none⟩ = some (.pointer (some ⟨b, 0, none⟩)) ∧ wr.drew.cell? ⟨w.heap.size + 2, 1, none⟩ = some (.int .i64 (above + 1)) ∧ wr.drew.cell? ⟨w.heap.size + 1, 3, none⟩ = some (.slice (some ⟨g, off, none⟩) kn kc) ∧ wr.drew.cell? ⟨g, off + 8, none⟩ = some (.string kk) ∧ wr.drew.cell? ⟨g, off + 9, none⟩ = some (.string kx) ∧ wr.drew.cell? ⟨g, off + 10, none⟩ = some (.int .i64 ka) ∧ wr.drew.cell? ⟨g, off + 11, none⟩ = some kkv from I0)
        have hkt : Hid (∀ y, Kb b v' wr.drew y → y.cell? ⟨w.heap.size + 2, 0, none⟩ = some (.pointer (some ⟨b, 0, none⟩)) ∧ y.cell? ⟨w.heap.size + 2, 1, none⟩ = some (.int .i64 (above + 1)) ∧ y.cell? ⟨w.heap.size + 1, 3, none⟩ = some (.slice (some ⟨g, off, none⟩) kn kc) ∧ y.cell? ⟨g, off + 8, none⟩ = some (.string kk) ∧ y.cell? ⟨g, off + 9, none⟩ = some (.string kx) ∧ y.cell? ⟨g, off + 10, none⟩ = some (.int .i64 ka) ∧ y.cell? ⟨g, off + 11, none⟩ = some kkv) := hide fun y ky => by
          obtain ⟨-, -, -, -, -, f13', f20', f21', -⟩ := unhide FA y ((unhide h2).trans (unhide h3) (Kb.trans (Kb.of_g (G.refl wr)) (Or.inl rfl) ⟨ky.os, ky.tape, ky.output, ky.size, ky.block⟩))
          have lo2 : LoK B w y := (unhide lo').kb (y := wr) ⟨ky.os, ky.tape, ky.output, ky.size, ky.block⟩ hB (unhide hv') hs'
          have kq2 : ∀ i u, (ndL kk kx ka kkv)[i]? = some u → y.cell? ⟨g, off + 8 + i, none⟩ = some u := fun i u hu => (World.cell?_of_block (a := ⟨g, off + 8 + i, none⟩) (lo2 g hgB)).trans (by simpa using kcs i u hu)
          have r0 := kq2 0 _ rfl
          have r1 := kq2 1 _ rfl
          have r2 := kq2 2 _ rfl
          have r3 := kq2 3 _ rfl
          simp only [Nat.add_zero, Nat.add_assoc, Nat.reduceAdd] at r0 r1 r2 r3
          exact ⟨f20', f21', f13', r0, r1, r2, r3⟩
        have CN : Hid (Calls Try.prog 15 #[.agg #[.pointer (some ⟨b, 0, none⟩), .int .i64 (above + 1)], .agg #[.string kk, .string kx, .int .i64 ka, kkv]] wr.drew fun e w' => e = .returned (.tuple #[]) ∧ Hid (∃ v'', Bd b v'' (bs ++ Lib.byteCells (fillP xl s sm (pl.take (n + 1)))) w' ∧ Kb b v W w' ∧ NewRow W v v'') ∧ (w'.cell? ⟨w.heap.size + 2, 0, none⟩ = some (.pointer (some ⟨b, 0, none⟩)) ∧ w'.cell? ⟨w.heap.size + 2, 1, none⟩ = some (.int .i64 (above + 1)) ∧ w'.cell? ⟨w.heap.size + 1, 3, none⟩ = some (.slice (some ⟨g, off, none⟩) kn kc) ∧ w'.cell? ⟨g, off + 8, none⟩ = some (.string kk) ∧ w'.cell? ⟨g, off + 9, none⟩ = some (.string kx) ∧ w'.cell? ⟨g, off + 10, none⟩ = some (.int .i64 ka) ∧ w'.cell? ⟨g, off + 11, none⟩ = some kkv)) := hide (by
          refine (KN wr.drew v' _ (fun q hq => unhide lo' q hq) hs' ((unhide h1).g ((G.refl wr).drew)) (unhide hv') (by have := unhide hl3; rw [show pieceP xl s sm 50 = s 2 from rfl] at this; exact this)).mono ?_
          rintro e w' ⟨rfl, v2, y1, y2, y3⟩
          exact ⟨rfl, hide (unhide KP w' v2 y1 ⟨y2.os, y2.tape, y2.output, y2.size, y2.block⟩ y3), unhide hkt w' y2⟩)
        clear fr kq q0 q1 q2 q3 KN kcs HK HM hkt KP
        go_wp2_with fail
        go_region_held3 (fun y => y.cell? ⟨w.heap.size + 2, 0, none⟩ = some (.pointer (some ⟨b, 0, none⟩)) ∧ y.cell? ⟨w.heap.size + 2, 1, none⟩ = some (.int .i64 (above + 1)) ∧ y.cell? ⟨w.heap.size + 1, 3, none⟩ = some (.slice (some ⟨g, off, none⟩) kn kc) ∧ y.cell? ⟨g, off + 8, none⟩ = some (.string kk) ∧ y.cell? ⟨g, off + 9, none⟩ = some (.string kx) ∧ y.cell? ⟨g, off + 10, none⟩ = some (.int .i64 ka) ∧ y.cell? ⟨g, off + 11, none⟩ = some kkv)
          (first | assumption | exact unhide KD)
          ((go_at_call 15; refine (unhide CN).mono ?_; rintro e w' ⟨rfl, K, I2⟩))
        all_goals
          go_wp2_with fail
          go_roundw
          case rel => exact ⟨n + 1, by omega, by go_num, K⟩
          case measure => simp [intOf]; omega
      · subst h42
        have fr' : wr.cell? ⟨w.heap.size + 3, n, none⟩ = some (.int .u8 42) := fr
        have CM := hide (unhide HM (unhide hmem) wr v' _ (unhide lo') hs' (unhide h1) (unhide hv') (by have := unhide hl3; rw [show pieceP xl s sm 42 = sm from rfl] at this; exact this))
        clear fr HK HM
        go_wp2_with fail
        refine (unhide CM).mono ?_
        rintro e w' ⟨rfl, v2, q1, q2, q3⟩
        have K := hide (unhide KP w' v2 (by rw [show pieceP xl s sm 42 = sm from rfl]; exact q1) q2 q3)
        clear q1 q2 q3 CM
        go_wp2_with fail
        go_roundw
        case rel => exact ⟨n + 1, by omega, by go_num, K⟩
        case measure => simp [intOf]; omega
      · obtain ⟨a1, a2, a3, a4, a5⟩ := h0
        have hp : pieceP xl s sm c = [c] := by unfold pieceP; rw [if_neg a1, if_neg a2, if_neg a3, if_neg a4, if_neg a5]
        have nn : ∀ m : Nat, m < 256 → c ≠ UInt8.ofNat m → ¬ ((c.toNat : Int) = (m : Int)) := fun m hm h e => by
          have e2 : (UInt8.ofNat m).toNat = m := by simp [UInt8.toNat_ofNat']; omega
          exact h (UInt8.toNat_inj.1 (by omega))
        have b1 : ¬ ((c.toNat : Int) = 36) := nn 36 (by omega) a1
        have b2 : ¬ ((c.toNat : Int) = 48) := nn 48 (by omega) a2
        have b3 : ¬ ((c.toNat : Int) = 49) := nn 49 (by omega) a3
        have b4 : ¬ ((c.toNat : Int) = 50) := nn 50 (by omega) a4
        have b5 : ¬ ((c.toNat : Int) = 42) := nn 42 (by omega) a5
        have CW := hide (wbyte_any b v' _ (c.toNat : Int) wr (unhide h1) (by have := unhide hl3; rw [hp] at this; exact this))
        rw [hp, show Lib.byteCells [c] = [Value.int .u8 (c.toNat : Int)] from rfl] at KP
        clear nn hp a1 a2 a3 a4 a5 HK HM hl3 hmem hc
        generalize ((c.toNat : Nat) : Int) = ci at *
        go_wp2_with fail
        refine (unhide CW).mono ?_
        rintro e w' ⟨rfl, v2, q1, q2, q3⟩
        have K := hide (unhide KP w' v2 q1 q2 q3)
        clear q1 q2 q3 CW
        go_wp2_with fail
        go_roundw
        case rel => exact ⟨n + 1, by omega, by go_num, K⟩
        case measure => simp [intOf]; omega
    · obtain rfl : n = pt.size := by omega
      have K := hide (unhide FIN wr (unhide hh))
      clear FIN FA HK HM hh st
      go_wp2_with fail
      go_end0
      exact unhide K
end Go.Proofs.Ythbpmekfgkagiaa
