/- Sets and Maps of package live. -/
import Derived.Test.YtnliooflpclcbaaGreatDoorLiveGo
import Derived.Test.YtnliooflpclcbaaGreatDoorLiveInts
namespace Go.Proofs.YtnliooflpclcbaaGreatDoor
set_option maxRecDepth 100000
open Go.RowKit Go.Maps Go.ChangeShapes Go.WideShapes Go.ChangeAt Go.Deep

/-- What is read later: the least that fits the code. -/
structure LeastD (m : Md) (f : Fn) (st : Nat → Nat) : Prop where
  cl : ClD m f (fun pc s => (st pc).testBit s = true)
  le : ∀ X, ClD m f X → ∀ pc s, pc < f.is.length → (st pc).testBit s = true → X pc s
  bd : ∀ pc, pc < f.is.length → st pc < 18446744073709551616
/-- A row of uint64s that may be written. -/
structure UAt (w : World) (b n : Nat) (st : Nat → Nat) : Prop where
  lt : b < w.heap.size
  c : ∀ i, i < n → w.cell? ⟨b, i, none⟩ = some (.int .u64 (st i : Int)) ∧ w.frozen? ⟨b, i, none⟩ = false
theorem UAt.g {w w' : World} {b n : Nat} {st : Nat → Nat} (h : UAt w b n st) (g : G w w') : UAt w' b n st :=
  ⟨Nat.lt_of_lt_of_le h.lt g.size, fun i hi => ⟨g.cell (h.c i hi).1, (World.frozen?_of_block (a := ⟨b, i, none⟩) (g.block b h.lt)).trans (h.c i hi).2⟩⟩
theorem UAt.isn {w : World} {b n : Nat} {st : Nat → Nat} (h : UAt w b n st) (hn : n ≤ 1000000) : IsN w (.slice (some ⟨b, 0, none⟩) n n) ((List.range n).map st) := by
  have hl : ((List.range n).map st).length = n := by simp
  refine ⟨some ⟨b, 0, none⟩, n, by rw [hl], by rw [hl]; exact Nat.le_refl _, rfl, by rw [hl]; unfold maxLen; omega, (fun e => by cases e), Or.inr ⟨b, 0, rfl, h.lt, fun i a hi => ⟨[.int .u64 (a : Int)], rfl, fun q u hq => ?_⟩⟩⟩
  match q, hq with
  | 0, hq =>
    simp at hq
    subst hq
    have hin : i < n := by have := (List.getElem?_eq_some_iff.1 hi).1; simpa using this
    have ha : a = st i := by
      rw [List.getElem?_map, List.getElem?_range hin] at hi
      exact (Option.some.inj hi).symm
    subst ha
    simpa [elU] using (h.c i hin).1
  | q + 1, hq => simp at hq
theorem UAt.put {w : World} {b n : Nat} {st : Nat → Nat} (h : UAt w b n st) (k v : Nat) (hk : k < n) : UAt (w.setCell ⟨b, k, none⟩ (.int .u64 (v : Int))) b n (upd st k v) := by
  refine ⟨by rw [World.size_setCell]; exact h.lt, fun i hi => ⟨?_, by rw [World.frozen?_setCell]; exact (h.c i hi).2⟩⟩
  by_cases e : i = k
  · subst e
    rw [upd_self]
    exact cell_same _ (h.c i hi).1
  · rw [upd_ne _ _ e, cell_other _ (Or.inr e)]
    exact (h.c i hi).1
theorem UAt.eq {w : World} {b n : Nat} {st st' : Nat → Nat} (h : UAt w b n st) (e : ∀ i, i < n → st' i = st i) : UAt w b n st' := ⟨h.lt, fun i hi => by rw [e i hi]; exact h.c i hi⟩
theorem mk_u64s (n : Nat) (hn : n ≤ 1000000) (w : World) : (Instr.makeSlice 37 (.int .i64 (n : Int)) (.int .i64 (n : Int))).run Tryz.prog w = .ok (.slice (some ⟨w.heap.size, 0, none⟩) n n) (w.alloc (.cells (madeCells #[.int .u64 0] n) 35)) := by
  obtain ⟨i, hi, hz, hs, hb⟩ := info_parts info_uint64
  have := run_make (P := Tryz.prog) w 37 35 i (.int .u64 0) Tryz.underlying37 hi hz .i64 .i64 (n : Int) (n : Int) (by omega) (by omega) (by rw [hb]; omega) (by omega)
  rw [this, hs, Int.toNat_natCast, Nat.mul_one]
  rfl
theorem u_start (w : World) (n : Nat) : UAt (w.alloc (.cells (madeCells #[.int .u64 0] n) 35)) w.heap.size n (fun _ => 0) := by
  have e := heap_alloc_new w (.cells (madeCells #[.int .u64 0] n) 35)
  refine ⟨by rw [World.size_alloc]; omega, fun i hi => ⟨?_, ?_⟩⟩
  · rw [cell_of_row _ _ i _ _ _ e]
    exact made_get _ _ _ hi
  · unfold World.frozen?
    rw [e]
    simp
/-- What Sets answers. -/
def SetTo (w : World) (m : Md) (f : Fn) (e : Ending) (w' : World) : Prop :=
  ∃ st b, e = .returned (.slice (some ⟨b, 0, none⟩) f.is.length f.is.length) ∧ UAt w' b f.is.length st ∧ w.heap.size ≤ b ∧ G w w' ∧ LeastD m f st
/-- What Maps answers. -/
def MapTo (w : World) (m : Md) (f : Fn) (e : Ending) (w' : World) : Prop :=
  ∃ st b, e = .returned (.slice (some ⟨b, 0, none⟩) f.is.length f.is.length) ∧ UAt w' b f.is.length (fun k => st k &&& kndP f.ks) ∧ w.heap.size ≤ b ∧ G w w' ∧ LeastD m f st
theorem least_of {m : Md} {f : Fn} {ns : List Nd} {l : List Sc} {st : Nat → Nat} (h : GOK m f ns l) (P : PI (fun k => (ndAt ns k).2.2) (fun k => (ndAt ns k).2.1) ns.length (fun k => (ndAt ns k).1) st []) : LeastD m f st :=
  ⟨gok_up h P, fun X hX pc s hp hb => gok_lo h P X hX pc s hp hb, fun pc hp => P.bd pc (by have := h.st.len; omega)⟩
set_option maxHeartbeats 2000000 in
theorem sets_any (w : World) (m : Md) (so : Option Addr) (sc : Nat) (go : Option Addr) (gc : Nat) (co : Option Addr) (cc : Nat) (ao : Option Addr) (ac : Nat) (fo : Option Addr) (fc : Nat) (f : Fn) (ko : Option Addr) (kc : Nat) (io : Option Addr) (ic : Nat) (mo : Option Addr) (mc : Nat) (h : ModR w m so sc go gc co cc ao ac fo fc) (hi : RowAt elIn w io f.is.length ic f.is) (hf : ∀ i ∈ f.is, oIn i) (oc : ∀ s ∈ m.ca, oCa s) (hB : f.is.length * (4 * m.ca.length) + f.is.length ≤ 100000) (hcl : m.ca.length ≤ 100000) :
    Calls Tryz.prog 11 #[.agg #[.slice so m.sh.length sc, .slice go m.gl.length gc, .slice co m.co.length cc, .slice ao m.ca.length ac, .slice fo m.fn.length fc, .int .i64 m.main], .agg #[.int .i64 f.p, .int .i64 f.c, .int .i64 f.s, .int .i64 f.r, .slice ko f.ks.length kc, .slice io f.is.length ic, .slice mo f.ms.length mc]] w (SetTo w m f) := by
  obtain ⟨W0, hW0⟩ : ∃ W0, W0 = (w.alloc (.cells #[.slice so m.sh.length sc, .slice go m.gl.length gc, .slice co m.co.length cc, .slice ao m.ca.length ac, .slice fo m.fn.length fc, .int .i64 m.main] 33)).alloc (.cells #[.int .i64 f.p, .int .i64 f.c, .int .i64 f.s, .int .i64 f.r, .slice ko f.ks.length kc, .slice io f.is.length ic, .slice mo f.ms.length mc] 39) := ⟨_, rfl⟩
  have g0 : G w W0 := by rw [hW0]; exact ((G.refl w).more _).more _
  have C1 := hide (graphOf_any W0 m so sc go gc co cc ao ac fo fc f ko kc io ic mo mc (h.g g0) (hi.g okIn g0) hf oc hB hcl)
  have c5 : W0.cell? ⟨w.heap.size + 1, 5, none⟩ = some (.slice io f.is.length ic) := by rw [hW0]; simp [go_sem]
  have hn : f.is.length ≤ 100000 := by omega
  obtain ⟨n0, hn0⟩ : ∃ n0, n0 = f.is.length := ⟨_, rfl⟩
  have TOP : Hid (∀ st b wr, UAt wr b n0 st → w.heap.size ≤ b → G W0 wr → LeastD m f st → SetTo w m f (.returned (.slice (some ⟨b, 0, none⟩) n0 n0)) wr) := hide fun st b wr U hb g hL => by
    rw [hn0] at U ⊢
    exact ⟨st, b, rfl, U, hb, g0.trans g, hL⟩
  have hs0 : Hid (w.heap.size ≤ W0.heap.size) := hide g0.size
  have LS : Hid (∀ ns l st, GOK m f ns l → PI (fun k => (ndAt ns k).2.2) (fun k => (ndAt ns k).2.1) ns.length (fun k => (ndAt ns k).1) st [] → LeastD m f st ∧ n0 ≤ ns.length) := hide fun ns l st hG P => ⟨least_of hG P, by have := hG.st.len; omega⟩
  rw [← hn0] at c5 hn hW0 C1 ⊢
  replace hn0 := hide hn0
  clear h hi hf oc hB hcl g0
  go_enter Tryz.func11, Tryz.ntmps11
  go_upto_region 1 with fail
  rw [← hW0]
  have l0 : Hid (W0 = W0) := hide rfl
  have bx : Hid (W0 = (w.alloc (.cells #[.slice so m.sh.length sc, .slice go m.gl.length gc, .slice co m.co.length cc, .slice ao m.ca.length ac, .slice fo m.fn.length fc, .int .i64 m.main] 33)).alloc (.cells #[.int .i64 f.p, .int .i64 f.c, .int .i64 f.s, .int .i64 f.r, .slice ko f.ks.length kc, .slice io n0 ic, .slice mo f.ms.length mc] 39)) := hide hW0
  have m0 : W0.cell? ⟨w.heap.size, 0, none⟩ = some (.slice so m.sh.length sc) := by rw [hW0]; simp [go_sem]
  have m1 : W0.cell? ⟨w.heap.size, 1, none⟩ = some (.slice go m.gl.length gc) := by rw [hW0]; simp [go_sem]
  have m2 : W0.cell? ⟨w.heap.size, 2, none⟩ = some (.slice co m.co.length cc) := by rw [hW0]; simp [go_sem]
  have m3 : W0.cell? ⟨w.heap.size, 3, none⟩ = some (.slice ao m.ca.length ac) := by rw [hW0]; simp [go_sem]
  have m4 : W0.cell? ⟨w.heap.size, 4, none⟩ = some (.slice fo m.fn.length fc) := by rw [hW0]; simp [go_sem]
  have m5 : W0.cell? ⟨w.heap.size, 5, none⟩ = some (.int .i64 m.main) := by rw [hW0]; simp [go_sem]
  have f0 : W0.cell? ⟨w.heap.size + 1, 0, none⟩ = some (.int .i64 f.p) := by rw [hW0]; simp [go_sem]
  have f1 : W0.cell? ⟨w.heap.size + 1, 1, none⟩ = some (.int .i64 f.c) := by rw [hW0]; simp [go_sem]
  have f2 : W0.cell? ⟨w.heap.size + 1, 2, none⟩ = some (.int .i64 f.s) := by rw [hW0]; simp [go_sem]
  have f3 : W0.cell? ⟨w.heap.size + 1, 3, none⟩ = some (.int .i64 f.r) := by rw [hW0]; simp [go_sem]
  have f4 : W0.cell? ⟨w.heap.size + 1, 4, none⟩ = some (.slice ko f.ks.length kc) := by rw [hW0]; simp [go_sem]
  have f6 : W0.cell? ⟨w.heap.size + 1, 6, none⟩ = some (.slice mo f.ms.length mc) := by rw [hW0]; simp [go_sem]
  clear hW0 l0 bx
  go_wp2_with fail
  refine (unhide C1).mono ?_
  rintro e x1 ⟨gB, nb, ns, l, rfl, g1, hgB, hnb, hG, HG, hN, hT⟩
  have C2 := hide (settle_any x1 gB nb ns.length _ _ _ HG (by omega) (by omega))
  replace hG := hide hG
  have g1' := hide g1
  have hnb' := hide hnb
  clear C1 HG hN hT g1 hgB hnb m0 m1 m2 m3 m4 m5 f0 f1 f2 f3 f4 f6
  go_wp2_with fail
  refine (unhide C2).mono ?_
  rintro e x2 ⟨rfl, hTr, st, HG2, hP⟩
  obtain ⟨hL, hNn⟩ := unhide LS ns l st (unhide hG) hP
  have gx2 : G W0 x2 := ⟨hTr.os.trans (unhide g1').os, hTr.tape.trans (unhide g1').tape, hTr.output.trans (unhide g1').output, Nat.le_trans (unhide g1').size hTr.size, fun b hb => (hTr.block b (Nat.lt_of_lt_of_le hb (unhide g1').size) (by have := unhide hnb'; omega)).trans ((unhide g1').block b hb)⟩
  have d5 := gx2.cell c5
  have hmk := mk_u64s n0 (by omega) x2
  obtain ⟨X, hX⟩ : ∃ X, X = x2.alloc (.cells (madeCells #[.int .u64 0] n0) 35) := ⟨_, rfl⟩
  have gX : G x2 X := by rw [hX]; exact G.alloc _ _
  have HX := HG2.g gX
  have UX := u_start x2 n0
  rw [← hX] at UX hmk
  have hbx : Hid (w.heap.size ≤ x2.heap.size) := hide (Nat.le_trans (unhide hs0) gx2.size)
  obtain ⟨cap, c13⟩ := HX.c
  have hsz : Hid (x2.heap.size ≠ gB ∧ x2.heap.size ≠ nb) := hide (by
    have h1 := HG2.lt0
    have h2 := HG2.lt
    omega)
  have RDY : Hid (∀ (k : Nat) wr s', k ≤ n0 → UAt wr x2.heap.size n0 s' → G x2 wr → (∀ i, i < k → s' i = st i) → wr.cell? ⟨gB, 13, none⟩ = some (.slice (some ⟨nb, 0, none⟩) ns.length cap) ∧ (k < n0 → wr.cell? ⟨nb, k * 3, none⟩ = some (.int .u64 (st k : Int)) ∧ wr.cell? ⟨x2.heap.size, k, none⟩ = some (.int .u64 (s' k : Int)) ∧ wr.frozen? ⟨x2.heap.size, k, none⟩ = false ∧ UAt (wr.setCell ⟨x2.heap.size, k, none⟩ (.int .u64 (st k : Int))) x2.heap.size n0 (upd s' k (st k)) ∧ G x2 (wr.setCell ⟨x2.heap.size, k, none⟩ (.int .u64 (st k : Int))) ∧ ∀ i, i < k + 1 → upd s' k (st k) i = st i)) := hide fun k wr s' hk U g hs => by
    obtain ⟨cap2, c2⟩ := HG2.c
    have : cap2 = cap := by
      have h1 := gX.cell c2
      rw [c13] at h1
      injection h1 with h1
      injection h1 with _ _ h1
      exact h1.symm
    subst this
    refine ⟨g.cell c2, fun hlt => ⟨g.cell (HG2.set k (by omega)).1, (U.c k hlt).1, (U.c k hlt).2, U.put k (st k) hlt, G.set g _ _ _ (Nat.le_refl _), fun i hi => ?_⟩⟩
    by_cases e : i = k
    · subst e; exact upd_self _ _ _
    · rw [upd_ne _ _ e]; exact hs i (by omega)
  have ST : Hid (UAt (x2.alloc (.cells (madeCells #[.int .u64 0] n0) 35)) x2.heap.size n0 (fun _ => 0) ∧ G x2 (x2.alloc (.cells (madeCells #[.int .u64 0] n0) 35))) := hide (by rw [← hX]; exact ⟨UX, gX⟩)
  have FI : Hid (∀ wr s', UAt wr x2.heap.size n0 s' → G x2 wr → (∀ i, i < n0 → s' i = st i) → SetTo w m f (.returned (.slice (some ⟨x2.heap.size, 0, none⟩) n0 n0)) wr) := hide fun wr s' U g hs => unhide TOP st x2.heap.size wr (U.eq (fun i hi => (hs i hi).symm)) (unhide hbx) (gx2.trans g) hL
  have hNs : Hid (n0 ≤ ns.length) := hide hNn
  have hnn : Hid (n0 ≤ 100000) := hide hn
  replace gx2 := hide gx2
  clear C2 HG2 hP hL HX UX gX hTr TOP LS c5 hNn hn c13
  go_wp2_with fail
  go_loopw [19] (fun i wr => ∃ (k : Nat) (s' : Nat → Nat), k ≤ n0 ∧ i = .int .i64 k ∧ Hid (UAt wr x2.heap.size n0 s' ∧ G x2 wr ∧ ∀ i, i < k → s' i = st i)) (fun i _ => n0 - (intOf i).toNat)
  case atStart => exact ⟨0, _, Nat.zero_le _, rfl, hide ⟨(unhide ST).1, (unhide ST).2, fun i hi => by omega⟩⟩
  case round =>
    obtain ⟨k, s', hk, rfl, HU⟩ := hrel
    obtain ⟨c13, hr⟩ := unhide RDY k wr s' hk (unhide HU).1 (unhide HU).2.1 (unhide HU).2.2
    clear ST d5 hmk hX
    by_cases hlt : k < n0
    · obtain ⟨q0, q1, q2, q3⟩ := hr hlt
      replace q3 := hide q3
      have hkN : (k : Int) < (ns.length : Int) := by have := unhide hNs; omega
      have hki : (k : Int) < (n0 : Int) := by omega
      have hkw : wrap64 ((k : Int) + 1) = (k : Int) + 1 := by have := unhide hnn; unfold wrap64; omega
      clear HU FI RDY hr
      go_wp2_with fail
      go_roundw
      case rel => exact ⟨k + 1, _, hlt, by go_num, q3⟩
      case measure => exact dec_lt n0 k hlt hkw
    · obtain rfl : k = n0 := by omega
      have K := hide (unhide FI wr s' (unhide HU).1 (unhide HU).2.1 (unhide HU).2.2)
      clear HU FI RDY hr
      go_wp2_with fail
      refine bodyPost_ret (by simp [results, Tryz.results11, go_sem]; try rfl) rfl ?_
      exact unhide K
set_option maxHeartbeats 2000000 in
theorem maps_any (w : World) (m : Md) (so : Option Addr) (sc : Nat) (go : Option Addr) (gc : Nat) (co : Option Addr) (cc : Nat) (ao : Option Addr) (ac : Nat) (fo : Option Addr) (fc : Nat) (f : Fn) (ko : Option Addr) (kc : Nat) (io : Option Addr) (ic : Nat) (mo : Option Addr) (mc : Nat) (h : ModR w m so sc go gc co cc ao ac fo fc) (hk : RowAt elB w ko f.ks.length kc f.ks) (hi : RowAt elIn w io f.is.length ic f.is) (hf : ∀ i ∈ f.is, oIn i) (oc : ∀ s ∈ m.ca, oCa s) (hB : f.is.length * (4 * m.ca.length) + f.is.length ≤ 100000) (hcl : m.ca.length ≤ 100000) (hkl : f.ks.length ≤ 1000000) :
    Calls Tryz.prog 8 #[.agg #[.slice so m.sh.length sc, .slice go m.gl.length gc, .slice co m.co.length cc, .slice ao m.ca.length ac, .slice fo m.fn.length fc, .int .i64 m.main], .agg #[.int .i64 f.p, .int .i64 f.c, .int .i64 f.s, .int .i64 f.r, .slice ko f.ks.length kc, .slice io f.is.length ic, .slice mo f.ms.length mc]] w (MapTo w m f) := by
  obtain ⟨W0, hW0⟩ : ∃ W0, W0 = (w.alloc (.cells #[.slice so m.sh.length sc, .slice go m.gl.length gc, .slice co m.co.length cc, .slice ao m.ca.length ac, .slice fo m.fn.length fc, .int .i64 m.main] 33)).alloc (.cells #[.int .i64 f.p, .int .i64 f.c, .int .i64 f.s, .int .i64 f.r, .slice ko f.ks.length kc, .slice io f.is.length ic, .slice mo f.ms.length mc] 39) := ⟨_, rfl⟩
  have g0 : G w W0 := by rw [hW0]; exact ((G.refl w).more _).more _
  have C1 := hide (sets_any W0 m so sc go gc co cc ao ac fo fc f ko kc io ic mo mc (h.g g0) (hi.g okIn g0) hf oc hB hcl)
  obtain ⟨KD, hKD⟩ : ∃ KD, KD = kndP f.ks := ⟨_, rfl⟩
  have KM : Hid (∀ x, G W0 x → Calls Tryz.prog 12 #[.slice ko f.ks.length kc] x fun e w' => e = .returned (.int .u64 (KD : Int)) ∧ x = w') := hide fun x g => by
    rw [hKD]
    exact (kindMap_any x ko f.ks.length kc f.ks (hk.g okB (g0.trans g)) hkl).mono (fun e w' h => ⟨h.1, h.2.symm⟩)
  have hKb : KD < 18446744073709551616 := by rw [hKD]; exact knd_lt _ _
  have hn : f.is.length ≤ 100000 := by omega
  obtain ⟨n0, hn0⟩ : ∃ n0, n0 = f.is.length := ⟨_, rfl⟩
  have TOP : Hid (∀ st b wr, UAt wr b n0 (fun k => st k &&& KD) → W0.heap.size ≤ b → G W0 wr → LeastD m f st → MapTo w m f (.returned (.slice (some ⟨b, 0, none⟩) n0 n0)) wr) := hide fun st b wr U hb g hL => by
    rw [hn0] at U ⊢
    rw [hKD] at U
    exact ⟨st, b, rfl, U, Nat.le_trans g0.size hb, g0.trans g, hL⟩
  have C1' : Hid (Calls Tryz.prog 11 #[.agg #[.slice so m.sh.length sc, .slice go m.gl.length gc, .slice co m.co.length cc, .slice ao m.ca.length ac, .slice fo m.fn.length fc, .int .i64 m.main], .agg #[.int .i64 f.p, .int .i64 f.c, .int .i64 f.s, .int .i64 f.r, .slice ko f.ks.length kc, .slice io n0 ic, .slice mo f.ms.length mc]] W0 fun e w' => ∃ st b, e = .returned (.slice (some ⟨b, 0, none⟩) n0 n0) ∧ UAt w' b n0 st ∧ W0.heap.size ≤ b ∧ G W0 w' ∧ LeastD m f st ∧ ∀ k, k < n0 → st k < 18446744073709551616) := hide (by
    have := unhide C1
    rw [hn0]
    exact this.mono (fun e w' h => by
      obtain ⟨st, b, e1, e2, e3, e4, e5⟩ := h
      exact ⟨st, b, e1, e2, e3, e4, e5, e5.bd⟩))
  rw [← hn0] at hn hW0 ⊢
  replace hn0 := hide hn0
  have m0 : W0.cell? ⟨w.heap.size, 0, none⟩ = some (.slice so m.sh.length sc) := by rw [hW0]; simp [go_sem]
  have m1 : W0.cell? ⟨w.heap.size, 1, none⟩ = some (.slice go m.gl.length gc) := by rw [hW0]; simp [go_sem]
  have m2 : W0.cell? ⟨w.heap.size, 2, none⟩ = some (.slice co m.co.length cc) := by rw [hW0]; simp [go_sem]
  have m3 : W0.cell? ⟨w.heap.size, 3, none⟩ = some (.slice ao m.ca.length ac) := by rw [hW0]; simp [go_sem]
  have m4 : W0.cell? ⟨w.heap.size, 4, none⟩ = some (.slice fo m.fn.length fc) := by rw [hW0]; simp [go_sem]
  have m5 : W0.cell? ⟨w.heap.size, 5, none⟩ = some (.int .i64 m.main) := by rw [hW0]; simp [go_sem]
  have f0 : W0.cell? ⟨w.heap.size + 1, 0, none⟩ = some (.int .i64 f.p) := by rw [hW0]; simp [go_sem]
  have f1 : W0.cell? ⟨w.heap.size + 1, 1, none⟩ = some (.int .i64 f.c) := by rw [hW0]; simp [go_sem]
  have f2 : W0.cell? ⟨w.heap.size + 1, 2, none⟩ = some (.int .i64 f.s) := by rw [hW0]; simp [go_sem]
  have f3 : W0.cell? ⟨w.heap.size + 1, 3, none⟩ = some (.int .i64 f.r) := by rw [hW0]; simp [go_sem]
  have f4 : W0.cell? ⟨w.heap.size + 1, 4, none⟩ = some (.slice ko f.ks.length kc) := by rw [hW0]; simp [go_sem]
  have f5 : W0.cell? ⟨w.heap.size + 1, 5, none⟩ = some (.slice io n0 ic) := by rw [hW0]; simp [go_sem]
  have f6 : W0.cell? ⟨w.heap.size + 1, 6, none⟩ = some (.slice mo f.ms.length mc) := by rw [hW0]; simp [go_sem]
  clear h hi hf oc hB hcl g0 hk hkl hKD C1
  go_enter Tryz.func8, Tryz.ntmps8
  go_upto_region 1 with fail
  rw [← hW0]
  clear hW0
  go_wp2_with fail
  refine (unhide C1').mono ?_
  rintro e x1 ⟨st, b, rfl, hU, hb, g1, hL, hbd⟩
  have d4 := g1.cell f4
  have C2 := hide (unhide KM x1 g1)
  have RDY : Hid (∀ (k : Nat) wr s', k ≤ n0 → UAt wr b n0 s' → G W0 wr → (∀ i, i < k → s' i = st i &&& KD) → (∀ i, k ≤ i → s' i = st i) → k < n0 → wr.cell? ⟨b, k, none⟩ = some (.int .u64 (st k : Int)) ∧ wr.frozen? ⟨b, k, none⟩ = false ∧ bits .and .u64 (st k : Int) (KD : Int) = ((st k &&& KD : Nat) : Int) ∧ UAt (wr.setCell ⟨b, k, none⟩ (.int .u64 ((st k &&& KD : Nat) : Int))) b n0 (upd s' k (st k &&& KD)) ∧ G W0 (wr.setCell ⟨b, k, none⟩ (.int .u64 ((st k &&& KD : Nat) : Int))) ∧ (∀ i, i < k + 1 → upd s' k (st k &&& KD) i = st i &&& KD) ∧ ∀ i, k + 1 ≤ i → upd s' k (st k &&& KD) i = st i) := hide fun k wr s' hk U g hs1 hs2 hlt => by
    have hc := U.c k hlt
    rw [hs2 k (Nat.le_refl _)] at hc
    refine ⟨hc.1, hc.2, bits_and_u64_nat _ _ (hbd k hlt) hKb, U.put k _ hlt, G.set g _ _ _ hb, fun i hi => ?_, fun i hi => ?_⟩
    · by_cases e : i = k
      · subst e; exact upd_self _ _ _
      · rw [upd_ne _ _ e]; exact hs1 i (by omega)
    · rw [upd_ne _ _ (by omega)]; exact hs2 i (by omega)
  have ST : Hid (UAt x1 b n0 st ∧ G W0 x1 ∧ (∀ i, i < 0 → st i = st i &&& KD) ∧ ∀ i, 0 ≤ i → st i = st i) := hide ⟨hU, g1, fun i hi => by omega, fun _ _ => rfl⟩
  have FI : Hid (∀ wr s', UAt wr b n0 s' → G W0 wr → (∀ i, i < n0 → s' i = st i &&& KD) → MapTo w m f (.returned (.slice (some ⟨b, 0, none⟩) n0 n0)) wr) := hide fun wr s' U g hs => unhide TOP st b wr (U.eq (fun i hi => (hs i hi).symm)) hb g hL
  have hnn : Hid (n0 ≤ 100000) := hide hn
  clear C1' KM hU hb g1 hL hbd TOP hn hKb m0 m1 m2 m3 m4 m5 f0 f1 f2 f3 f4 f5 f6
  go_wp2_with fail
  refine (unhide C2).mono ?_
  rintro e w' ⟨rfl, rfl⟩
  clear C2 d4
  go_wp2_with fail
  go_loopw [16] (fun i wr => ∃ (k : Nat) (s' : Nat → Nat), k ≤ n0 ∧ i = .int .i64 k ∧ Hid (UAt wr b n0 s' ∧ G W0 wr ∧ (∀ i, i < k → s' i = st i &&& KD) ∧ ∀ i, k ≤ i → s' i = st i)) (fun i _ => n0 - (intOf i).toNat)
  case atStart => exact ⟨0, st, Nat.zero_le _, rfl, hide ⟨(unhide ST).1, (unhide ST).2.1, (unhide ST).2.2.1, fun _ _ => rfl⟩⟩
  case round =>
    obtain ⟨k, s', hk, rfl, HU⟩ := hrel
    clear ST
    by_cases hlt : k < n0
    · obtain ⟨q0, q1, q2, q3⟩ := unhide RDY k wr s' hk (unhide HU).1 (unhide HU).2.1 (unhide HU).2.2.1 (unhide HU).2.2.2 hlt
      replace q3 := hide q3
      obtain ⟨V, hV⟩ : ∃ V, V = st k &&& KD := ⟨_, rfl⟩
      rw [← hV] at q2 q3
      have hki : (k : Int) < (n0 : Int) := by omega
      have hkw : wrap64 ((k : Int) + 1) = (k : Int) + 1 := by have := unhide hnn; unfold wrap64; omega
      clear HU FI RDY hV
      go_wp2_with fail
      go_roundw
      case rel => exact ⟨k + 1, _, hlt, by go_num, q3⟩
      case measure => exact dec_lt n0 k hlt hkw
    · obtain rfl : k = n0 := by omega
      have K := hide (unhide FI wr s' (unhide HU).1 (unhide HU).2.1 (unhide HU).2.2.1)
      clear HU FI RDY
      go_wp2_with fail
      refine bodyPost_ret (by simp [results, Tryz.results8, go_sem]; try rfl) rfl ?_
      exact unhide K
end Go.Proofs.YtnliooflpclcbaaGreatDoor
