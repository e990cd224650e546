/- Here, one behind the other: HqT, HqT2, HqPlayed. -/
import Derived.Test.YtahhkehijokhnaaGreatDoorMhX
import Derived.Deep.DeepCutAuto
/- HeapPlays: Set and Put with what they keep beside; arithmetic for played. -/
namespace Go.Proofs.YtahhkehijokhnaaGreatDoor
set_option maxRecDepth 100000
open Go.ChangeShapes Go.WideShapes Go.ChangeAt Go.RowKit Go.Maps

section
variable {L : Lz} {tv rv sv : Value} {th tl : List Tg} {vo : List Nat} {lr : List Int} {l ll : List Hd.Shp} {w y : World}
theorem pq_set9 (h : Hid (Pq L tv rv sv th tl vo lr l ll w)) (g : G w y) {k : Nat} {t : Tg} (hk : th[k]? = some t) {f : Int} {ad : Bool} (hm : mayF t f ad = true) (v : Int) (br : Bool) (id : Int) :
    Calls Tryz.prog 21 #[.pointer (some ⟨L.x.hb, 0, none⟩), .int .i64 t.ad, .int .i64 f, .int .i64 v, .bool ad, .bool br, .int .i64 id] y fun e w' => e = .returned (.int .i64 0) ∧ Pq L tv rv sv (th.set k { t with v := t.v.set f.toNat v }) tl vo lr l ll w' ∧ ∀ d, w.heap.size ≤ d → d < y.heap.size → w'.heap[d]? = y.heap[d]? := by
  obtain ⟨al, ao, cap, nv, c, i, H0, R, hi, T, Q0, n1, n2, gs, hl⟩ := unhide h
  have H := H0.gr g
  have Q := Q0.gr g
  obtain ⟨x, hx, hf, ef, hT⟩ := (T.all k t hk).getY hm
  refine (hq_set (fun s hs => (gs s hs).2) (hide H) t.ad f v ad br id x hT).mono ?_
  rintro e w' ⟨he, H', F⟩
  have e1 : wrap64 (f + 1) = ((f.toNat : Nat) : Int) + 1 := by rw [ef]; have := (T.all k t hk).w2; unfold wrap64; omega
  rw [e1] at H'
  obtain ⟨c2, H2, q1, q2⟩ := H'.nine
  have k9 := fr_nine H F
  exact ⟨he, ⟨_, ao, cap, nv, c2, i, H2, R.write t.ad _ v, by rw [List.length_set]; exact hi, T.put R.good hk hf v, Q.kept F.size fun d hd => k9 d (Q.lt hd) (n1 d hd), fun d hd => (q2 d (Nat.lt_of_lt_of_le (Q.lt hd) F.size)).trans (n1 d hd), q1, gs, hl⟩, fun d h1 h2 => k9 d h2 (n2 d h1)⟩
theorem pq_put9 (h : Hid (Pq L tv rv sv th tl vo lr l ll w)) (g : G w y) {k : Nat} {t : Tg} (hk : th[k]? = some t) {f : Nat} {ad : Bool} (hm : mayE t ad = true) (hf : f + 1 < t.wd) (v : Int) (br : Bool) (id : Int) :
    Calls Tryz.prog 16 #[.pointer (some ⟨L.x.hb, 0, none⟩), .int .i64 t.ad, .int .i64 (f : Int), .int .i64 v, .bool ad, .bool br, .int .i64 id] y fun e w' => e = .returned (.int .i64 0) ∧ Pq L tv rv sv (th.set k { t with v := t.v.set f v }) tl vo lr l ll w' ∧ ∀ d, w.heap.size ≤ d → d < y.heap.size → w'.heap[d]? = y.heap[d]? := by
  obtain ⟨al, ao, cap, nv, c, i, H0, R, hi, T, Q0, n1, n2, gs, hl⟩ := unhide h
  have H := H0.gr g
  have Q := Q0.gr g
  have ht := T.all k t hk
  obtain ⟨x, hx, hT⟩ := ht.atY (gs _ (List.mem_of_getElem? ht.sh)).1 hm hf
  refine (hq_put (fun s hs => (gs s hs).2) (hide H) t.ad (f : Int) v ad br id x hT).mono ?_
  rintro e w' ⟨he, H', F⟩
  have e1 : wrap64 ((f : Int) + 1) = (f : Int) + 1 := by have := ht.w2; unfold wrap64; omega
  rw [e1] at H'
  obtain ⟨c2, H2, q1, q2⟩ := H'.nine
  have k9 := fr_nine H F
  exact ⟨he, ⟨_, ao, cap, nv, c2, i, H2, R.write t.ad _ v, by rw [List.length_set]; exact hi, T.put R.good hk hf v, Q.kept F.size fun d hd => k9 d (Q.lt hd) (n1 d hd), fun d hd => (q2 d (Nat.lt_of_lt_of_le (Q.lt hd) F.size)).trans (n1 d hd), q1, gs, hl⟩, fun d h1 h2 => k9 d h2 (n2 d h1)⟩
/-- What is known of a thing by its shape. -/
theorem Pq.fits (h : Pq L tv rv sv th tl vo lr l ll w) {k : Nat} {t : Tg} (hk : th[k]? = some t) : t.s.good = true ∧ t.s.m < 18446744073709551616 ∧ 1 ≤ t.wd ∧ t.wd ≤ 64 ∧ t.v.length = t.wd - 1 := by
  obtain ⟨al, ao, cap, nv, c, i, H, R, hi, T, Q, n1, n2, gs, hl⟩ := h
  have ht := T.all k t hk
  exact ⟨(gs _ (List.mem_of_getElem? ht.sh)).1, (gs _ (List.mem_of_getElem? ht.sh)).2, ht.w1, ht.w2, ht.ln⟩
theorem Pq.lq (h : Pq L tv rv sv th tl vo lr l ll w) : Lq L.S w L.hb tv rv sv tl vo lr ll := by
  obtain ⟨al, ao, cap, nv, c, i, H, R, hi, T, Q, n1, n2, gs, hl⟩ := h
  exact Q
/-- A word of a thing's own row is written: what the law does behind Set and Put. -/
theorem Pq.store (hS : L.W.heap.size ≤ L.S) (h : Pq L tv rv sv th tl vo lr l ll w) {k b : Nat} {t : Tg} (hk : tl[k]? = some t) (hb : vo[k]? = some b) {f : Nat} (hf : f < t.v.length) (x : Int) : Pq L tv rv sv th (tl.set k { t with v := t.v.set f x }) vo lr l ll (w.setCell ⟨b, f, none⟩ (.int .i64 x)) := by
  have Q := h.lq
  have hm : lqB L.hb tv rv sv vo b := Or.inr (Or.inr (Or.inr (Or.inr (List.mem_of_getElem? hb))))
  have bl := h.below
  refine h.side (Q.put hk hb hf x) ?_ (by rw [World.size_setCell]; exact Nat.le_refl _) (fun d hd hn => Below.heap_setCell _ _ _ _ (fun e => hn (by rw [e]; exact hm))) (fun d hd => Or.inl hd)
  exact bl.setCell (Nat.le_trans hS (Q.lo.2 b (List.mem_of_getElem? hb))) _
end
theorem hq_and65535 (n : Int) : bits .and .i64 n 65535 = n % 65536 := by
  have h127 : (BitVec.ofInt 64 65535).toNat = 2 ^ 16 - 1 := by decide
  have key : (BitVec.ofInt 64 n &&& BitVec.ofInt 64 65535).toNat = (n % ((2 ^ 64 : Nat) : Int)).toNat % 2 ^ 16 := by
    rw [BitVec.toNat_and, BitVec.toNat_ofInt, h127, Nat.and_two_pow_sub_one_eq_mod]
  show IntKind.i64.wrap ((BitVec.ofInt 64 n &&& BitVec.ofInt 64 65535).toNat : Nat) = n % 65536
  rw [key, IntKind.wrap_i64]
  omega
theorem hq_and127 (n : Int) : bits .and .i64 n 127 = n % 128 := by
  have h127 : (BitVec.ofInt 64 127).toNat = 2 ^ 7 - 1 := by decide
  have key : (BitVec.ofInt 64 n &&& BitVec.ofInt 64 127).toNat = (n % ((2 ^ 64 : Nat) : Int)).toNat % 2 ^ 7 := by
    rw [BitVec.toNat_and, BitVec.toNat_ofInt, h127, Nat.and_two_pow_sub_one_eq_mod]
  show IntKind.i64.wrap ((BitVec.ofInt 64 n &&& BitVec.ofInt 64 127).toNat : Nat) = n % 128
  rw [key, IntKind.wrap_i64]
  omega
theorem hq_and63 (n : Int) : bits .and .i64 n 63 = n % 64 := by
  have h127 : (BitVec.ofInt 64 63).toNat = 2 ^ 6 - 1 := by decide
  have key : (BitVec.ofInt 64 n &&& BitVec.ofInt 64 63).toNat = (n % ((2 ^ 64 : Nat) : Int)).toNat % 2 ^ 6 := by
    rw [BitVec.toNat_and, BitVec.toNat_ofInt, h127, Nat.and_two_pow_sub_one_eq_mod]
  show IntKind.i64.wrap ((BitVec.ofInt 64 n &&& BitVec.ofInt 64 63).toNat : Nat) = n % 64
  rw [key, IntKind.wrap_i64]
  omega
theorem hq_key {N : Nat} (h : 1 ≤ N) (K : Int) : ∃ (u : Int) (k : Nat), bits .and .i64 K 65535 = u ∧ Int.tmod u (N : Int) = (k : Int) ∧ k < N := by
  obtain ⟨m, hm⟩ : ∃ m : Nat, K % 65536 = m := ⟨(K % 65536).toNat, by omega⟩
  refine ⟨(m : Int), m % N, (hq_and65535 K).trans hm, (Int.ofNat_tmod m N).symm, Nat.mod_lt _ (by omega)⟩
end Go.Proofs.YtahhkehijokhnaaGreatDoor

/- HeapPlays: Make and Add with what they keep beside. -/
namespace Go.Proofs.YtahhkehijokhnaaGreatDoor
set_option maxRecDepth 100000
open Go.ChangeShapes Go.WideShapes Go.ChangeAt Go.RowKit Go.Maps

section
variable {L : Lz} {tv rv sv : Value} {th tl : List Tg} {vo : List Nat} {lr : List Int} {l ll : List Hd.Shp} {w y : World}
theorem pq_make9 (h : Hid (Pq L tv rv sv th tl vo lr l ll w)) (g : G w y) {k : Nat} {s : Hd.Shp} (hk : l[k]? = some s) {wd : Nat} (w1 : 1 ≤ wd) (w2 : wd ≤ 64) (hn : th.length < 60) (ra : Value) :
    Calls Tryz.prog 8 #[.pointer (some ⟨L.x.hb, 0, none⟩), .int .i64 (k : Int), .int .i64 (wd : Int), ra] y fun r w' => ∃ v : Int, r = .returned (.tuple #[.int .i64 v, .int .i64 0]) ∧ v ≠ 0 ∧ Pq L tv rv sv (th ++ [⟨v, k, s, wd, List.replicate (wd - 1) 0⟩]) tl vo lr l ll w' ∧ ∀ d, w.heap.size ≤ d → d < y.heap.size → w'.heap[d]? = y.heap[d]? := by
  obtain ⟨al, ao, cap, nv, c, i, H0, R, hi, T, Q0, n1, n2, gs, hl⟩ := unhide h
  have H := H0.gr g
  have Q := Q0.gr g
  have hkl := (List.getElem?_eq_some_iff.1 hk).1
  obtain ⟨al', v, e, R', hN, hK, hO⟩ := R.take (by omega) (n := (wd : Int)) (by omega) (by omega)
  refine (h_makeK (hide H) k hkl s hk (wd : Int) v (by omega) (by omega) al' (hide e) ra).mono ?_
  rintro r w' ⟨hr, H', kp⟩
  obtain ⟨c', H2, c1, c2⟩ := H'.nine
  exact ⟨v, hr, by have := hN.pos; omega, ⟨_, ao, cap, nv, c', i + 1, H2, R'.write v 0 _, by simp; omega, T.add hN R'.good hK hO w1 w2 hk (by omega) (good_kd (gs s (List.mem_of_getElem? hk)).1), Q.kept kp.1 fun d hd => kp.2 d (Q.lt hd) (by rw [n1 d hd]; omega), fun d hd => (c2 d (Nat.lt_of_lt_of_le (Q.lt hd) kp.1)).trans (n1 d hd), c1, gs, hl⟩, fun d h1 h2 => kp.2 d h2 (by rw [n2 d h1]; omega)⟩
theorem pq_add9 (h : Hid (Pq L tv rv sv th tl vo lr l ll w)) (g : G w y) (s : Hd.Shp) (hs : s.Fit) (hl9 : l.length < 100) :
    Calls Tryz.prog 9 #[.pointer (some ⟨L.x.hb, 0, none⟩), .agg #[.int .i64 s.k, .int .i64 s.f, .int .u64 (s.m : Int)]] y fun r w' => r = .returned (.tuple #[.int .i64 (Hd.numV l s), .int .i64 (Hd.numE s)]) ∧ Pq L tv rv sv th tl vo lr (Hd.addS l s) ll w' ∧ ∀ d, w.heap.size ≤ d → d < y.heap.size → w'.heap[d]? = y.heap[d]? := by
  obtain ⟨al, ao, cap, nv, c, i, H0, R, hi, T, Q0, n1, n2, gs, hl⟩ := unhide h
  have H := H0.gr g
  have Q := Q0.gr g
  refine (h_add9 (hide H) rfl (by omega) s hs).mono ?_
  rintro r w' ⟨hr, ⟨n', ao', cap', nv', c', hn', H', k9⟩, _⟩
  subst hn'
  obtain ⟨c2, H2, e1, e2⟩ := H'.nine
  refine ⟨hr, ⟨al, ao', cap', nv', c2, i, H2, R, hi, T.more s, Q.kept k9.1 fun d hd => (k9.2 d (Q.lt hd)).2 (n1 d hd), fun d hd => (e2 d (Nat.lt_of_lt_of_le (Q.lt hd) k9.1)).trans ((k9.2 d (Q.lt hd)).1.trans (n1 d hd)), e1, fun t ht => ?_, ?_⟩, fun d h1 h2 => (k9.2 d h2).2 (n2 d h1)⟩
  · unfold Hd.addS at ht
    split at ht
    · rename_i hg
      rcases List.mem_append.1 ht with hm | hm
      · exact gs t hm
      · simp at hm; rw [hm]; exact ⟨hg.1, hs.m0⟩
    · exact gs t ht
  · unfold Hd.addS
    split
    · simp; omega
    · exact hl
end
end Go.Proofs.YtahhkehijokhnaaGreatDoor

/- played of package gantlinelaw14 answers true: a read or a write of a thing. -/
namespace Go.Proofs.YtahhkehijokhnaaGreatDoor
set_option maxRecDepth 100000
open Go.ChangeShapes Go.WideShapes Go.ChangeAt Go.RowKit Go.Maps Go.Deep

theorem hq_i1 {N i : Nat} (h : i < N) (h8 : N ≤ 60) : ∃ i1 : Int, wrap64 ((i : Int) + 1) = i1 ∧ i1 = ((i + 1 : Nat) : Int) ∧ N - i1.toNat < N - ((i : Int)).toNat := by
  refine ⟨(i : Int) + 1, ?_, by omega, by omega⟩
  unfold wrap64; omega
/-- What k is: a thing's place, or none has that address. -/
def Kq (ts : List Tg) (a : Int) (i : Nat) (c : Value) : Prop := (c = .int .i64 (-1) ∧ ∀ (j : Nat) t, j < i → ts[j]? = some t → t.ad ≠ a) ∨ ∃ (k : Nat) (t : Tg), c = .int .i64 (k : Int) ∧ ts[k]? = some t ∧ t.ad = a
set_option maxHeartbeats 40000000 in
set_option maxRecDepth 100000 in
theorem played_any {L : Lz} {ta : Option Addr} {T tc : Nat} {rv sv : Value} {ts : List Tg} {vo : List Nat} {lr : List Int} {l ll : List Hd.Shp} {w : World} (hS : L.W.heap.size ≤ L.S) (h : Hid (Pq L (.slice ta T tc) rv sv ts ts vo lr l ll w)) (hT : ts.length = T) (hT60 : T ≤ 60) (x : Ac) (hx : x.Fit) (h1 : 1 ≤ x.op) (h5 : x.op ≤ 5) :
    Calls Tryz.prog 11 #[.pointer (some ⟨L.x.hb, 0, none⟩), .slice ta T tc, x.val] w fun e w' => e = .returned (.bool true) ∧ ∃ ts', Pq L (.slice ta T tc) rv sv ts' ts' vo lr l ll w' := by
  obtain ⟨op, sh, n, K, F, V, ad, raw, s⟩ := x
  replace hx := hide hx
  replace h1 := hide (show 1 ≤ op from h1)
  replace h5 := hide (show op ≤ 5 from h5)
  replace hS := hide hS
  unfold Ac.val
  obtain ⟨wb, hwb⟩ : ∃ wb, wb = w.alloc (.cells #[.int .i64 op, .int .i64 sh, .int .i64 n, .int .i64 K, .int .i64 F, .int .i64 V, .bool ad, .bool raw, .int .i64 s.k, .int .i64 s.f, .int .u64 (s.m : Int)] 39) := ⟨_, rfl⟩
  have gb : Hid (G w wb) := hide (by rw [hwb]; exact G.alloc _ _)
  have x0 : wb.cell? ⟨w.heap.size, 0, none⟩ = some (.int .i64 op) := by rw [hwb]; exact World.cell?_alloc_new _ _ _ 0
  have x3 : wb.cell? ⟨w.heap.size, 3, none⟩ = some (.int .i64 K) := by rw [hwb]; exact World.cell?_alloc_new _ _ _ 3
  have x4 : wb.cell? ⟨w.heap.size, 4, none⟩ = some (.int .i64 F) := by rw [hwb]; exact World.cell?_alloc_new _ _ _ 4
  have x5 : wb.cell? ⟨w.heap.size, 5, none⟩ = some (.int .i64 V) := by rw [hwb]; exact World.cell?_alloc_new _ _ _ 5
  have x6 : wb.cell? ⟨w.heap.size, 6, none⟩ = some (.bool ad) := by rw [hwb]; exact World.cell?_alloc_new _ _ _ 6
  have x7 : wb.cell? ⟨w.heap.size, 7, none⟩ = some (.bool raw) := by rw [hwb]; exact World.cell?_alloc_new _ _ _ 7
  -- the cells of thing k, in any later world
  have CT : Hid (∀ (y : World), G w y → ∀ (k : Nat) t, ts[k]? = some t → ∃ g b, ta = some ⟨g, 0, none⟩ ∧ vo[k]? = some b ∧ y.cell? ⟨g, k * 6, none⟩ = some (.int .i64 t.ad) ∧ y.cell? ⟨g, k * 6 + 1, none⟩ = some (.int .i64 t.s.k) ∧ y.cell? ⟨g, k * 6 + 2, none⟩ = some (.int .i64 t.s.f) ∧ y.cell? ⟨g, k * 6 + 3, none⟩ = some (.int .u64 (t.s.m : Int)) ∧ y.cell? ⟨g, k * 6 + 4, none⟩ = some (.int .i64 (t.wd : Int)) ∧ y.cell? ⟨g, k * 6 + 5, none⟩ = some (.slice (some ⟨b, 0, none⟩) (t.wd - 1) (t.wd - 1)) ∧ VAt y b t.v) := hide fun y gy k t hk => by
    obtain ⟨g, cap, b, e, hb, V, c⟩ := ((unhide h).lq.gr gy).thing hk
    obtain ⟨e1, _⟩ : ta = some ⟨g, 0, none⟩ ∧ True := by
      have := e
      simp at this
      exact ⟨this.1, trivial⟩
    exact ⟨g, b, e1, hb, c 0 _ rfl, c 1 _ rfl, c 2 _ rfl, c 3 _ rfl, c 4 _ rfl, c 5 _ rfl, V⟩
  have hT' := hide hT
  clear hT
  go_enter Tryz.func11, Tryz.ntmps11
  go_upto_region 1 with fail
  rw [← hwb]
  replace hwb := hide hwb
  go_upto_region 3 with fail
  obtain ⟨q, hq0⟩ : ∃ q : Bool, q = (!raw && decide (0 < T)) := ⟨_, rfl⟩
  replace hq0 := hide hq0
  go_cut [26] (fun p wx => p = .bool q ∧ wx = wb)
  case first =>
    as_aux_lemma =>
    rcases Bool.eq_false_or_eq_true raw with hr | hr
    · subst hr
      have e : q = false := (unhide hq0).trans (by simp)
      subst e
      go_wp2_with fail
      go_meet
      case rel => exact ⟨rfl, rfl⟩
    · subst hr
      by_cases h0 : T = 0
      · subst h0
        have e : q = false := (unhide hq0).trans (by simp)
        subst e
        go_wp2_with fail
        go_meet
        case rel => exact ⟨rfl, rfl⟩
      · have e : q = true := (unhide hq0).trans (by simp; omega)
        have dT : decide (0 < (T : Int)) = true := by simp; omega
        have dT' : decide (0 < T) = true := by simp; omega
        subst e
        clear h0
        go_wp2_with fail
        go_meet
        case rel => exact ⟨rfl, rfl⟩
  case rest =>
  obtain ⟨rfl, hwx⟩ := hcut
  have hwx' := hwx.symm
  subst hwx'
  clear hwx
  go_upto_if 26 with fail
  go_cut [7, 8] (fun v7 v8 wx => wx = wb ∧ ∃ a : Int, v7 = .int .i64 a ∧ Hid (Kq ts a 0 v8))
  case first =>
    as_aux_lemma =>
    rcases Bool.eq_false_or_eq_true q with hr | hr
    · subst hr
      have hT1 : 1 ≤ T := by
        have := unhide hq0
        simp at this
        omega
      obtain ⟨u, k, hu, hkt, hk⟩ := hq_key hT1 K
      have hN0 : ¬ (T : Int) = 0 := by omega
      have hkI : (k : Int) < (T : Int) := Int.ofNat_lt.2 hk
      obtain ⟨t, ht⟩ : ∃ t, ts[k]? = some t := ⟨_, List.getElem?_eq_getElem (by rw [unhide hT']; exact hk)⟩
      obtain ⟨g, b, e1, hb, c0, _⟩ := unhide CT _ (unhide gb) k t ht
      subst e1
      replace ht := hide ht
      clear hb
      go_wp2_with fail
      go_meet
      case rel => exact ⟨rfl, t.ad, rfl, hide (Or.inr ⟨k, t, rfl, unhide ht, rfl⟩)⟩
    · subst hr
      go_wp2_with fail
      go_meet
      case rel => exact ⟨rfl, V, rfl, hide (Or.inl ⟨rfl, fun j t hj => absurd hj (Nat.not_lt_zero _)⟩)⟩
  case rest =>
  obtain ⟨hwx, a, rfl, hq⟩ := hcut
  have hwx' := hwx.symm
  subst hwx'
  clear hwx
  go_wp2_with fail
  go_loopw [8, 9] (fun c8 c9 wr => wr = wb ∧ ∃ i : Nat, c9 = .int .i64 (i : Int) ∧ Hid (i ≤ T) ∧ Hid (Kq ts a i c8)) (fun c8 c9 wr => T - (intOf c9).toNat)
  case atStart => exact ⟨rfl, 0, rfl, hide (Nat.zero_le _), hq⟩
  case round =>
    obtain ⟨hwr, i, rfl, hiT, hk⟩ := hrel
    have hwr' := hwr.symm
    subst hwr'
    clear hwr
    rcases unhide hk with ⟨rfl, hno⟩ | ⟨k, t, rfl, ht, hta⟩
    · by_cases hi : i = T
      · -- none has that address
        have hT2 : T = i := hi.symm
        subst hT2
        have HN : Hid (∀ (k : Nat) t, ts[k]? = some t → t.ad ≠ a) := hide fun k t hkt => hno k t (by have := (List.getElem?_eq_some_iff.1 hkt).1; rw [unhide hT'] at this; exact this) hkt
        clear hno hk hq hiT hi CT
        obtain ⟨u, hu⟩ : ∃ u, bits .and .i64 F 127 = u := ⟨_, rfl⟩
        have P1 := hide ((unhide h).gr (unhide gb))
        go_upto_region 31 with fail
        have hop : op = 1 ∨ op = 2 ∨ op = 3 ∨ op = 4 ∨ op = 5 := by have := unhide h1; have := unhide h5; omega
        clear hx hS
        rcases hop with rfl | rfl | rfl | rfl | rfl
        · as_aux_lemma =>
            obtain ⟨Tq, hn, _, C⟩ := pq_get P1 a u ad
            obtain rfl := hn (unhide HN)
            replace C := hide C
            clear HN
            go_upto_region 34 with fail
            go_wp2_with fail
            refine (unhide C).mono ?_
            rintro e w1 ⟨rfl, g1⟩
            have y4 := g1.cell x4
            replace g1 := hide g1
            clear C
            by_cases hf : F = u
            · have dF : (F != u) = false := by simpa using hf
              replace hf := hide hf
              go_wp2_with fail
              go_ret
              exact ⟨rfl, ts, (unhide P1).gr (unhide g1)⟩
            · have dF : (F != u) = true := by simpa using hf
              replace hf := hide hf
              go_wp2_with fail
              go_ret
              exact ⟨rfl, ts, (unhide P1).gr (unhide g1)⟩
        · as_aux_lemma =>
            by_cases hf : F = u
            · have dF : (F != u) = false := by simpa using hf
              have C := hide (pq_set_no P1 a F V ad true 1 (Or.inl (unhide HN)))
              replace hf := hide hf
              clear HN
              go_wp2_with fail
              refine (unhide C).mono ?_
              rintro e w1 ⟨rfl, g1⟩
              replace g1 := hide g1
              clear C
              go_wp2_with fail
              go_ret
              exact ⟨rfl, ts, (unhide P1).gr (unhide g1)⟩
            · have dF : (F != u) = true := by simpa using hf
              replace hf := hide hf
              clear HN
              go_wp2_with fail
              go_ret
              exact ⟨rfl, ts, unhide P1⟩
        · as_aux_lemma =>
            obtain ⟨Tq, hn, _, C⟩ := pq_at P1 a F ad
            obtain rfl := hn (unhide HN)
            replace C := hide C
            clear HN
            go_wp2_with fail
            refine (unhide C).mono ?_
            rintro e w1 ⟨rfl, g1⟩
            replace g1 := hide g1
            clear C
            go_wp2_with fail
            go_ret
            exact ⟨rfl, ts, (unhide P1).gr (unhide g1)⟩
        · as_aux_lemma =>
            have C := hide (pq_put_no P1 a F V ad true 1 (Or.inl (unhide HN)))
            clear HN
            go_wp2_with fail
            refine (unhide C).mono ?_
            rintro e w1 ⟨rfl, g1⟩
            replace g1 := hide g1
            clear C
            go_wp2_with fail
            go_ret
            exact ⟨rfl, ts, (unhide P1).gr (unhide g1)⟩
        · as_aux_lemma =>
            obtain ⟨Tq, hn, _, C⟩ := pq_len P1 a
            obtain rfl := hn (unhide HN)
            replace C := hide C
            clear HN
            go_wp2_with fail
            refine (unhide C).mono ?_
            rintro e w1 ⟨rfl, g1⟩
            replace g1 := hide g1
            clear C
            go_wp2_with fail
            go_ret
            exact ⟨rfl, ts, (unhide P1).gr (unhide g1)⟩
      · have hlt' : i < T := Nat.lt_of_le_of_ne (unhide hiT) hi
        have hlt : (i : Int) < (T : Int) := Int.ofNat_lt.2 hlt'
        have DC : Hid (T - ((i : Int) + 1).toNat < T - ((i : Int)).toNat) := hide (by omega)
        obtain ⟨t, ht⟩ : ∃ t, ts[i]? = some t := ⟨_, List.getElem?_eq_getElem (by rw [unhide hT']; exact hlt')⟩
        obtain ⟨g, b, e1, hb, c0, _⟩ := unhide CT _ (unhide gb) i t ht
        subst e1
        have hno' := hide hno
        clear hno hk hb hi
        by_cases hta : t.ad = a
        · have hr : (t.ad == a) = true := by simpa using hta
          have NX : Hid (Kq ts a (i + 1) (.int .i64 (i : Int))) := hide (Or.inr ⟨i, t, rfl, ht, hta⟩)
          have hlt1 : Hid (i + 1 ≤ T) := hide hlt'
          replace ht := hide ht
          clear hta hlt' hno'
          as_aux_lemma =>
            go_wp2_with fail
            go_roundw
            case rel => exact ⟨trivial, i + 1, by first | rfl | simp, hlt1, NX⟩
            case measure => exact unhide DC
        · have hr : (t.ad == a) = false := by simpa using hta
          have NX : Hid (Kq ts a (i + 1) (.int .i64 (-1))) := hide (Or.inl ⟨rfl, fun j u hj hu => by
            rcases Nat.lt_succ_iff_lt_or_eq.1 hj with h | h
            · exact unhide hno' j u h hu
            · subst h
              rw [ht] at hu
              cases hu
              exact hta⟩)
          have hlt1 : Hid (i + 1 ≤ T) := hide hlt'
          replace ht := hide ht
          clear hta hlt' hno'
          as_aux_lemma =>
            go_wp2_with fail
            go_roundw
            case rel => exact ⟨trivial, i + 1, by first | rfl | simp, hlt1, NX⟩
            case measure => exact unhide DC
    · -- thing k
      subst hta
      replace ht := hide ht
      have hkT : Hid (k < T) := hide (by have := (List.getElem?_eq_some_iff.1 (unhide ht)).1; rw [unhide hT'] at this; exact this)
      have dk : decide ((k : Int) < 0) = false := by simp
      have hkn : ¬ ((k : Int) < 0) := by omega
      clear hk hq
      go_upto_region 7 with fail
      go_cut [45] (fun p wx => p = .bool false ∧ wx = wb)
      case first =>
        as_aux_lemma =>
        by_cases hi : i = T
        · have hT2 : T = i := hi.symm
          subst hT2
          go_wp2_with fail
          go_meet
          case rel => exact ⟨rfl, rfl⟩
        · have hlt : (i : Int) < (T : Int) := Int.ofNat_lt.2 (Nat.lt_of_le_of_ne (unhide hiT) hi)
          replace hi := hide hi
          go_wp2_with fail
          go_meet
          case rel => exact ⟨rfl, rfl⟩
      case rest =>
      obtain ⟨rfl, hwx⟩ := hcut
      have hwx' := hwx.symm
      subst hwx'
      clear hwx
      obtain ⟨g, b, e1, hb, c0, c1, c2, c3, c4, c5, VA⟩ := unhide CT _ (unhide gb) k t (unhide ht)
      subst e1
      replace VA := hide VA
      replace hb := hide hb
      have FT := hide ((unhide h).fits (unhide ht))
      obtain ⟨u, hu⟩ : ∃ u, bits .and .i64 F 127 = u := ⟨_, rfl⟩
      have P1 := hide ((unhide h).gr (unhide gb))
      have hkI : (k : Int) < (T : Int) := Int.ofNat_lt.2 (unhide hkT)
      go_upto_region 16 with fail
      have hop : op = 1 ∨ op = 2 ∨ op = 3 ∨ op = 4 ∨ op = 5 := by have := unhide h1; have := unhide h5; omega
      rcases hop with rfl | rfl | rfl | rfl | rfl
      · --<A
        obtain ⟨wz, hwz⟩ : ∃ wz, wz = wb.alloc (.cells #[.int .i64 t.s.k, .int .i64 t.s.f, .int .u64 (t.s.m : Int)] 37) := ⟨_, rfl⟩
        have gc : G wb wz := by rw [hwz]; exact G.alloc _ _
        have y0 : wz.cell? ⟨wb.heap.size, 0, none⟩ = some (.int .i64 t.s.k) := by rw [hwz]; exact World.cell?_alloc_new _ _ _ 0
        have y1 : wz.cell? ⟨wb.heap.size, 1, none⟩ = some (.int .i64 t.s.f) := by rw [hwz]; exact World.cell?_alloc_new _ _ _ 1
        have y2 : wz.cell? ⟨wb.heap.size, 2, none⟩ = some (.int .u64 (t.s.m : Int)) := by rw [hwz]; exact World.cell?_alloc_new _ _ _ 2
        have z4 := gc.cell x4
        have z6 := gc.cell x6
        have d4 := gc.cell c4
        obtain ⟨q, hq⟩ : ∃ q : Bool, q = !mayF t F ad := ⟨_, rfl⟩
        obtain ⟨z, hz⟩ : ∃ z : Int, z = (t.wd : Int) - 2 := ⟨_, rfl⟩
        have hw2 : wrap64 ((t.wd : Int) - 2) = z := by have := unhide FT; rw [hz]; unfold wrap64; omega
        have hw2' : IntKind.i64.wrap ((t.wd : Int) - 2) = z := by rw [IntKind.wrap_i64]; have := unhide FT; rw [hz]; omega
        replace hq := hide hq
        replace hz := hide hz
        replace gc := hide gc
        go_upto_region 18 with fail
        rw [← hwz]
        replace hwz := hide hwz
        go_cut [105] (fun p wx => p = .bool q ∧ Hid (G wz wx))
        case first =>
          as_aux_lemma =>
          clear x0 x3 x4 x5 x6 x7 c0 c1 c2 c3 c4 c5 P1 VA CT hu
          by_cases a1 : t.s.k = 0
          · have b1 : (t.s.k != 0) = false := by simpa using a1
            by_cases a2 : F < 0
            · have e : q = true := (unhide hq).trans (by unfold mayF; simp; omega)
              have b2 : decide (F < 0) = true := by simpa using a2
              subst e
              replace a1 := hide a1
              replace a2 := hide a2
              go_quiet (fail)
              go_wp2_with fail
              go_meet
              case rel => exact ⟨rfl, hide (G.drewN _ _)⟩
            · have b2 : decide (F < 0) = false := by simpa using a2
              by_cases a3 : t.s.f ≤ F
              · have e : q = true := (unhide hq).trans (by unfold mayF; simp; omega)
                have b3 : decide (t.s.f ≤ F) = true := by simpa using a3
                subst e
                replace a1 := hide a1
                replace a2 := hide a2
                replace a3 := hide a3
                go_quiet (fail)
                go_wp2_with fail
                go_meet
                case rel => exact ⟨rfl, hide (G.drewN _ _)⟩
              · have b3 : decide (t.s.f ≤ F) = false := by simpa using a3
                by_cases a4 : z < F
                · have e : q = true := (unhide hq).trans (by have := unhide hz; unfold mayF; simp; omega)
                  have b4 : decide (z < F) = true := by simpa using a4
                  subst e
                  replace a1 := hide a1
                  replace a2 := hide a2
                  replace a3 := hide a3
                  replace a4 := hide a4
                  go_quiet (fail)
                  go_wp2_with fail
                  go_meet
                  case rel => exact ⟨rfl, hide (G.drewN _ _)⟩
                · have b4 : decide (z < F) = false := by simpa using a4
                  obtain ⟨fn, hfn⟩ : ∃ fn : Nat, F = fn := ⟨F.toNat, by omega⟩
                  have h64 : fn < 64 := by have := unhide FT; have := unhide hz; omega
                  obtain ⟨bt, hbt⟩ : ∃ bt : Bool, bt = Hd.bitB t.s.m fn := ⟨_, rfl⟩
                  have e : q = !(bt == ad) := by
                    have := unhide hz
                    rw [unhide hq, hbt]
                    unfold mayF Hd.bitB
                    have e1 : decide (t.s.k = 0) = true := by simpa using a1
                    have e2 : decide (0 ≤ F) = true := by simp; omega
                    have e3 : decide (F < t.s.f) = true := by simp; omega
                    have e4 : decide (F ≤ (t.wd : Int) - 2) = true := by simp; omega
                    rw [e1, e2, e3, e4, hfn, Int.toNat_natCast]
                    simp
                  have CB : Hid (∀ y, Calls Tryz.prog 32 #[.int .u64 (t.s.m : Int), .int .i64 F] y fun e w' => e = .returned (.bool bt) ∧ w' = y) := hide fun y => by rw [hfn, hbt]; exact Hd.bit_any t.s.m fn y (unhide FT).2.1 h64
                  replace hbt := hide hbt
                  replace hfn := hide hfn
                  replace h64 := hide h64
                  replace a1 := hide a1
                  replace a2 := hide a2
                  replace a3 := hide a3
                  replace a4 := hide a4
                  rcases Bool.eq_false_or_eq_true (bt == ad) with hb2 | hb2
                  · have e' : q = false := by rw [e, hb2]; rfl
                    subst e'
                    have hb3 : (bt != ad) = false := by unfold bne; rw [hb2]; rfl
                    clear e
                    go_quiet ((go_at_call 32; exact Calls.quiet_of_same (unhide CB _)))
                    go_wp2_with fail
                    go_meet
                    case rel => exact ⟨rfl, hide (G.drewN _ _)⟩
                  · have e' : q = true := by rw [e, hb2]; rfl
                    subst e'
                    have hb3 : (bt != ad) = true := by unfold bne; rw [hb2]; rfl
                    clear e
                    go_quiet ((go_at_call 32; exact Calls.quiet_of_same (unhide CB _)))
                    go_wp2_with fail
                    go_meet
                    case rel => exact ⟨rfl, hide (G.drewN _ _)⟩
          · have b1 : (t.s.k != 0) = true := by simpa using a1
            have e : q = true := (unhide hq).trans (by unfold mayF; simp [a1])
            subst e
            replace a1 := hide a1
            go_quiet (fail)
            go_wp2_with fail
            go_meet
            case rel => exact ⟨rfl, hide (G.drewN _ _)⟩
        case rest =>
        obtain ⟨rfl, hg⟩ := hcut
        have gz : Hid (G wb wc) := hide ((unhide gc).trans (unhide hg))
        have P2 := hide ((unhide P1).gr (unhide gz))
        replace x0 := (unhide gz).cell x0
        replace x4 := (unhide gz).cell x4
        replace x5 := (unhide gz).cell x5
        replace x6 := (unhide gz).cell x6
        replace c5 := (unhide gz).cell c5
        clear y0 y1 y2 z4 z6 d4 hw2 hw2' c0 c1 c2 c3 c4 x3 x7 hg gc hwz
        by_cases hm : mayF t F ad = true
        · as_aux_lemma =>
          have hqf : q = false := (unhide hq).trans (by rw [hm]; rfl)
          subst hqf
          obtain ⟨fn, hfn, hfw⟩ : ∃ fn : Nat, F = fn ∧ fn + 1 < t.wd := by
            unfold mayF at hm
            simp only [Bool.and_eq_true, decide_eq_true_eq] at hm
            exact ⟨F.toNat, by omega, by omega⟩
          have FTT := unhide FT
          have hu63 : bits .and .i64 F 63 = (fn : Int) := by rw [hq_and63, hfn]; omega
          have huF : u = F := by rw [← hu, hq_and127, hfn]; omega
          subst huF
          have dF : (u != u) = false := by simp
          obtain ⟨Tq, _, hy, C⟩ := pq_get P2 t.ad u ad
          obtain ⟨xx, hxx, rfl⟩ := (hy k t (unhide ht) rfl).1 hm
          rw [hfn, Int.toNat_natCast] at hxx
          have VV : Hid (∀ y, G wc y → y.cell? ⟨b, fn, none⟩ = some (.int .i64 xx)) := hide fun y gy => gy.cell ((unhide gz).cell ((unhide VA).cs fn xx hxx))
          have hix : (fn : Int) < ((t.wd - 1 : Nat) : Int) := by omega
          replace C := hide C
          subst hfn
          replace hxx := hide hxx
          replace hm := hide hm
          replace hfw := hide hfw
          clear hy FTT
          go_wp2_with fail
          refine (unhide C).mono ?_
          rintro e w1 ⟨rfl, g1⟩
          have VW := unhide VV w1 g1
          have y0 := g1.cell x0
          have y4 := g1.cell x4
          have y5 := g1.cell c5
          replace g1 := hide g1
          clear C
          go_wp2_with fail
          go_ret
          exact ⟨rfl, ts, (unhide P2).gr (unhide g1)⟩
        · as_aux_lemma =>
          have hm' : mayF t F ad = false := by simpa using hm
          have hqt : q = true := (unhide hq).trans (by rw [hm']; rfl)
          subst hqt
          obtain ⟨Tq, _, hy, C⟩ := pq_get P2 t.ad u ad
          by_cases hf : F = u
          · subst hf
            obtain rfl := (hy k t (unhide ht) rfl).2 hm'
            have dF : (F != F) = false := by simp
            replace C := hide C
            replace hm := hide hm
            clear hy hm'
            go_wp2_with fail
            refine (unhide C).mono ?_
            rintro e w1 ⟨rfl, g1⟩
            have y4 := g1.cell x4
            replace g1 := hide g1
            clear C
            go_wp2_with fail
            go_ret
            exact ⟨rfl, ts, (unhide P2).gr (unhide g1)⟩
          · have dF : (F != u) = true := by simpa using hf
            obtain ⟨T1, T2⟩ := Tq
            replace C := hide C
            replace hf := hide hf
            replace hm := hide hm
            clear hy hm'
            go_wp2_with fail
            refine (unhide C).mono ?_
            rintro e w1 ⟨rfl, g1⟩
            have y4 := g1.cell x4
            replace g1 := hide g1
            clear C
            go_wp2_with fail
            go_ret
            exact ⟨rfl, ts, (unhide P2).gr (unhide g1)⟩
      · --<B
        obtain ⟨wz, hwz⟩ : ∃ wz, wz = wb.alloc (.cells #[.int .i64 t.s.k, .int .i64 t.s.f, .int .u64 (t.s.m : Int)] 37) := ⟨_, rfl⟩
        have gc : G wb wz := by rw [hwz]; exact G.alloc _ _
        have y0 : wz.cell? ⟨wb.heap.size, 0, none⟩ = some (.int .i64 t.s.k) := by rw [hwz]; exact World.cell?_alloc_new _ _ _ 0
        have y1 : wz.cell? ⟨wb.heap.size, 1, none⟩ = some (.int .i64 t.s.f) := by rw [hwz]; exact World.cell?_alloc_new _ _ _ 1
        have y2 : wz.cell? ⟨wb.heap.size, 2, none⟩ = some (.int .u64 (t.s.m : Int)) := by rw [hwz]; exact World.cell?_alloc_new _ _ _ 2
        have z4 := gc.cell x4
        have z6 := gc.cell x6
        have d4 := gc.cell c4
        obtain ⟨q, hq⟩ : ∃ q : Bool, q = !mayF t F ad := ⟨_, rfl⟩
        obtain ⟨z, hz⟩ : ∃ z : Int, z = (t.wd : Int) - 2 := ⟨_, rfl⟩
        have hw2 : wrap64 ((t.wd : Int) - 2) = z := by have := unhide FT; rw [hz]; unfold wrap64; omega
        have hw2' : IntKind.i64.wrap ((t.wd : Int) - 2) = z := by rw [IntKind.wrap_i64]; have := unhide FT; rw [hz]; omega
        replace hq := hide hq
        replace hz := hide hz
        replace gc := hide gc
        go_upto_region 18 with fail
        rw [← hwz]
        replace hwz := hide hwz
        go_cut [105] (fun p wx => p = .bool q ∧ Hid (G wz wx))
        case first =>
          as_aux_lemma =>
          clear x0 x3 x4 x5 x6 x7 c0 c1 c2 c3 c4 c5 P1 VA CT hu
          by_cases a1 : t.s.k = 0
          · have b1 : (t.s.k != 0) = false := by simpa using a1
            by_cases a2 : F < 0
            · have e : q = true := (unhide hq).trans (by unfold mayF; simp; omega)
              have b2 : decide (F < 0) = true := by simpa using a2
              subst e
              replace a1 := hide a1
              replace a2 := hide a2
              go_quiet (fail)
              go_wp2_with fail
              go_meet
              case rel => exact ⟨rfl, hide (G.drewN _ _)⟩
            · have b2 : decide (F < 0) = false := by simpa using a2
              by_cases a3 : t.s.f ≤ F
              · have e : q = true := (unhide hq).trans (by unfold mayF; simp; omega)
                have b3 : decide (t.s.f ≤ F) = true := by simpa using a3
                subst e
                replace a1 := hide a1
                replace a2 := hide a2
                replace a3 := hide a3
                go_quiet (fail)
                go_wp2_with fail
                go_meet
                case rel => exact ⟨rfl, hide (G.drewN _ _)⟩
              · have b3 : decide (t.s.f ≤ F) = false := by simpa using a3
                by_cases a4 : z < F
                · have e : q = true := (unhide hq).trans (by have := unhide hz; unfold mayF; simp; omega)
                  have b4 : decide (z < F) = true := by simpa using a4
                  subst e
                  replace a1 := hide a1
                  replace a2 := hide a2
                  replace a3 := hide a3
                  replace a4 := hide a4
                  go_quiet (fail)
                  go_wp2_with fail
                  go_meet
                  case rel => exact ⟨rfl, hide (G.drewN _ _)⟩
                · have b4 : decide (z < F) = false := by simpa using a4
                  obtain ⟨fn, hfn⟩ : ∃ fn : Nat, F = fn := ⟨F.toNat, by omega⟩
                  have h64 : fn < 64 := by have := unhide FT; have := unhide hz; omega
                  obtain ⟨bt, hbt⟩ : ∃ bt : Bool, bt = Hd.bitB t.s.m fn := ⟨_, rfl⟩
                  have e : q = !(bt == ad) := by
                    have := unhide hz
                    rw [unhide hq, hbt]
                    unfold mayF Hd.bitB
                    have e1 : decide (t.s.k = 0) = true := by simpa using a1
                    have e2 : decide (0 ≤ F) = true := by simp; omega
                    have e3 : decide (F < t.s.f) = true := by simp; omega
                    have e4 : decide (F ≤ (t.wd : Int) - 2) = true := by simp; omega
                    rw [e1, e2, e3, e4, hfn, Int.toNat_natCast]
                    simp
                  have CB : Hid (∀ y, Calls Tryz.prog 32 #[.int .u64 (t.s.m : Int), .int .i64 F] y fun e w' => e = .returned (.bool bt) ∧ w' = y) := hide fun y => by rw [hfn, hbt]; exact Hd.bit_any t.s.m fn y (unhide FT).2.1 h64
                  replace hbt := hide hbt
                  replace hfn := hide hfn
                  replace h64 := hide h64
                  replace a1 := hide a1
                  replace a2 := hide a2
                  replace a3 := hide a3
                  replace a4 := hide a4
                  rcases Bool.eq_false_or_eq_true (bt == ad) with hb2 | hb2
                  · have e' : q = false := by rw [e, hb2]; rfl
                    subst e'
                    have hb3 : (bt != ad) = false := by unfold bne; rw [hb2]; rfl
                    clear e
                    go_quiet ((go_at_call 32; exact Calls.quiet_of_same (unhide CB _)))
                    go_wp2_with fail
                    go_meet
                    case rel => exact ⟨rfl, hide (G.drewN _ _)⟩
                  · have e' : q = true := by rw [e, hb2]; rfl
                    subst e'
                    have hb3 : (bt != ad) = true := by unfold bne; rw [hb2]; rfl
                    clear e
                    go_quiet ((go_at_call 32; exact Calls.quiet_of_same (unhide CB _)))
                    go_wp2_with fail
                    go_meet
                    case rel => exact ⟨rfl, hide (G.drewN _ _)⟩
          · have b1 : (t.s.k != 0) = true := by simpa using a1
            have e : q = true := (unhide hq).trans (by unfold mayF; simp [a1])
            subst e
            replace a1 := hide a1
            go_quiet (fail)
            go_wp2_with fail
            go_meet
            case rel => exact ⟨rfl, hide (G.drewN _ _)⟩
        case rest =>
        obtain ⟨rfl, hg⟩ := hcut
        have gz : Hid (G wb wc) := hide ((unhide gc).trans (unhide hg))
        have P2 := hide ((unhide P1).gr (unhide gz))
        replace x0 := (unhide gz).cell x0
        replace x4 := (unhide gz).cell x4
        replace x5 := (unhide gz).cell x5
        replace x6 := (unhide gz).cell x6
        replace c5 := (unhide gz).cell c5
        clear y0 y1 y2 z4 z6 d4 hw2 hw2' c0 c1 c2 c3 c4 x3 x7 hg gc hwz
        by_cases hm : mayF t F ad = true
        · as_aux_lemma =>
          have hqf : q = false := (unhide hq).trans (by rw [hm]; rfl)
          subst hqf
          obtain ⟨fn, hfn, hfw⟩ : ∃ fn : Nat, F = fn ∧ fn + 1 < t.wd := by
            unfold mayF at hm
            simp only [Bool.and_eq_true, decide_eq_true_eq] at hm
            exact ⟨F.toNat, by omega, by omega⟩
          have FTT := unhide FT
          have hu63 : bits .and .i64 F 63 = (fn : Int) := by rw [hq_and63, hfn]; omega
          have huF : u = F := by rw [← hu, hq_and127, hfn]; omega
          subst huF
          have dF : (u != u) = false := by simp
          have C := hide (pq_set9 (w := w) h ((unhide gb).trans (unhide gz)) (unhide ht) hm V true 1)
          have hix : (fn : Int) < ((t.wd - 1 : Nat) : Int) := by omega
          have hfl : Hid (fn < t.v.length) := hide (by omega)
          have hlo : Hid (w.heap.size < wc.heap.size) := hide (World.block_lt_of_cell? _ _ x0)
          rw [show u.toNat = fn by rw [hfn]; rfl] at C
          subst hfn
          replace hm := hide hm
          replace hfw := hide hfw
          clear FTT
          go_wp2_with fail
          refine (unhide C).mono ?_
          rintro e w1 ⟨rfl, P3, kp⟩
          have kx : w1.heap[w.heap.size]? = wc.heap[w.heap.size]? := kp _ (Nat.le_refl _) (unhide hlo)
          have y0 : w1.cell? ⟨w.heap.size, 0, none⟩ = some (.int .i64 2) := (World.cell?_of_block (a := ⟨w.heap.size, 0, none⟩) kx).trans x0
          have y5 : w1.cell? ⟨w.heap.size, 5, none⟩ = some (.int .i64 V) := (World.cell?_of_block (a := ⟨w.heap.size, 5, none⟩) kx).trans x5
          obtain ⟨g2, cap2, b2, e2, hb2, V2, cc2⟩ := P3.lq.thing (unhide ht)
          obtain ⟨rfl, _⟩ : g = g2 ∧ True := by
            have := e2
            simp at this
            exact ⟨this.1, trivial⟩
          rw [unhide hb] at hb2
          obtain rfl := Option.some.inj hb2
          have d5 : w1.cell? ⟨g, k * 6 + 5, none⟩ = some (.slice (some ⟨b, 0, none⟩) (t.wd - 1) (t.wd - 1)) := cc2 5 _ rfl
          have vf : w1.cell? ⟨b, fn, none⟩ = some (.int .i64 (t.v[fn]'(unhide hfl))) := V2.cs fn _ (List.getElem?_eq_getElem (unhide hfl))
          have vz := V2.fz fn
          have P4 := hide (P3.store (unhide hS) (unhide ht) (unhide hb) (unhide hfl) V)
          replace P3 := hide P3
          clear C kp kx hb2 e2 cc2 V2
          go_upto_region 50 with fail
          go_region
          all_goals
            go_wp2_with fail
            go_ret
            exact ⟨rfl, _, (unhide P4).gr (by first | exact (G.refl _).drew | exact G.refl _ | exact G.drewN _ _)⟩
        · as_aux_lemma =>
          have hm' : mayF t F ad = false := by simpa using hm
          have hqt : q = true := (unhide hq).trans (by rw [hm']; rfl)
          subst hqt
          by_cases hf : F = u
          · subst hf
            have C := hide (pq_set_no P2 t.ad F V ad true 1 (Or.inr ⟨k, t, unhide ht, rfl, hm'⟩))
            have dF : (F != F) = false := by simp
            replace hm := hide hm
            clear hm'
            go_wp2_with fail
            refine (unhide C).mono ?_
            rintro e w1 ⟨rfl, g1⟩
            replace g1 := hide g1
            clear C
            go_wp2_with fail
            go_ret
            exact ⟨rfl, ts, (unhide P2).gr (unhide g1)⟩
          · have dF : (F != u) = true := by simpa using hf
            replace hf := hide hf
            replace hm := hide hm
            clear hm'
            go_wp2_with fail
            go_ret
            exact ⟨rfl, ts, unhide P2⟩
      · --<C
        have hw1 : wrap64 ((t.wd : Int) - 1) = (t.wd : Int) - 1 := by have := unhide FT; unfold wrap64; omega
        obtain ⟨z, hz⟩ : ∃ z : Int, z = (t.wd : Int) - 2 := ⟨_, rfl⟩
        have hw2 : wrap64 ((t.wd : Int) - 2) = z := by have := unhide FT; rw [hz]; unfold wrap64; omega
        have hw2' : IntKind.i64.wrap ((t.wd : Int) - 2) = z := by rw [IntKind.wrap_i64]; have := unhide FT; rw [hz]; omega
        replace hz := hide hz
        obtain ⟨mb, hmb⟩ : ∃ mb : Bool, mb = decide (t.s.m = 1) := ⟨_, rfl⟩
        have em : ((t.s.m : Int) == 1) = mb := by rw [hmb, Bool.eq_iff_iff]; simp; omega
        replace hmb := hide hmb
        by_cases k1 : t.s.k = 1
        · have b1 : (t.s.k != 1) = false := by simpa using k1
          rcases Bool.eq_false_or_eq_true (mb == ad) with hma | hma
          · have hma2 : (mb != ad) = false := by unfold bne; rw [hma]; rfl
            have hme : mayE t ad = true := by
              unfold mayE
              rw [← unhide hmb, hma]
              simp [k1]
            by_cases ho : F < 0 ∨ z < F
            · as_aux_lemma =>
              have hout : F < 0 ∨ (t.wd : Int) - 2 < F := by rw [← unhide hz]; exact ho
              have C : Hid (∀ y, G wb y → Calls Tryz.prog 17 #[.pointer (some ⟨L.x.hb, 0, none⟩), .int .i64 t.ad, .int .i64 F, .bool ad] y fun e w' => e = .returned (.tuple #[.int .i64 0, .int .i64 2]) ∧ G y w') := hide fun y gy => by
                obtain ⟨Tq, _, hy, C⟩ := pq_at (hide ((unhide P1).gr gy)) t.ad F ad
                obtain rfl := ((hy k t (unhide ht) rfl).2 hme).1 hout
                exact C
              replace k1 := hide k1
              replace hme := hide hme
              replace hout := hide hout
              by_cases f0 : F < 0
              · have b2 : decide (F < 0) = true := by simpa using f0
                replace f0 := hide f0
                replace ho := hide ho
                go_upto_region 26 with fail
                go_quiet (fail)
                go_upto_region 28 with fail
                go_quiet (fail)
                go_wp2_with fail
                refine (unhide C _ (by first | exact G.drewN _ _ | exact (G.refl _).drew | exact G.refl _)).mono ?_
                rintro e w1 ⟨rfl, g1⟩
                replace g1 := hide (G.trans ((by first | exact G.drewN _ _ | exact (G.refl _).drew | exact G.refl _) : G wb _) g1)
                clear C
                go_wp2_with fail
                go_ret
                exact ⟨rfl, ts, (unhide P1).gr (unhide g1)⟩
              · have b2 : decide (F < 0) = false := by simpa using f0
                have b3 : decide (z < F) = true := by simp; omega
                replace f0 := hide f0
                replace ho := hide ho
                go_upto_region 26 with fail
                go_quiet (fail)
                go_upto_region 28 with fail
                go_quiet (fail)
                go_wp2_with fail
                refine (unhide C _ (by first | exact G.drewN _ _ | exact (G.refl _).drew | exact G.refl _)).mono ?_
                rintro e w1 ⟨rfl, g1⟩
                replace g1 := hide (G.trans ((by first | exact G.drewN _ _ | exact (G.refl _).drew | exact G.refl _) : G wb _) g1)
                clear C
                go_wp2_with fail
                go_ret
                exact ⟨rfl, ts, (unhide P1).gr (unhide g1)⟩
            · as_aux_lemma =>
              have b2 : decide (F < 0) = false := by simp; omega
              have b3 : decide (z < F) = false := by simp; omega
              obtain ⟨fn, hfn, hfw⟩ : ∃ fn : Nat, F = fn ∧ fn + 1 < t.wd := ⟨F.toNat, by omega, by have := unhide hz; omega⟩
              subst hfn
              obtain ⟨xx, hxx⟩ : ∃ xx, t.v[fn]? = some xx := ⟨_, List.getElem?_eq_getElem (by have := unhide FT; omega)⟩
              have C : Hid (∀ y, G wb y → Calls Tryz.prog 17 #[.pointer (some ⟨L.x.hb, 0, none⟩), .int .i64 t.ad, .int .i64 (fn : Int), .bool ad] y fun e w' => e = .returned (.tuple #[.int .i64 xx, .int .i64 0]) ∧ G y w') := hide fun y gy => by
                obtain ⟨Tq, _, hy, C⟩ := pq_at (hide ((unhide P1).gr gy)) t.ad (fn : Int) ad
                obtain ⟨x2, hx2, rfl⟩ := ((hy k t (unhide ht) rfl).2 hme).2 (by omega) (by omega)
                rw [Int.toNat_natCast, hxx] at hx2
                cases hx2
                exact C
              have vx : wb.cell? ⟨b, fn, none⟩ = some (.int .i64 xx) := (unhide VA).cs fn xx hxx
              have hix : (fn : Int) < ((t.wd - 1 : Nat) : Int) := by omega
              replace k1 := hide k1
              replace hme := hide hme
              replace ho := hide ho
              replace hfw := hide hfw
              replace hxx := hide hxx
              go_upto_region 26 with fail
              go_quiet (fail)
              go_upto_region 28 with fail
              go_quiet (fail)
              go_wp2_with fail
              refine (unhide C _ (by first | exact G.drewN _ _ | exact (G.refl _).drew | exact G.refl _)).mono ?_
              rintro e w1 ⟨rfl, g1⟩
              replace g1 := G.trans ((by first | exact G.drewN _ _ | exact (G.refl _).drew | exact G.refl _) : G wb _) g1
              have v0 := g1.cell x0
              have v5 := g1.cell c5
              have vv := g1.cell vx
              replace g1 := hide g1
              clear C
              go_wp2_with fail
              go_ret
              exact ⟨rfl, ts, (unhide P1).gr (unhide g1)⟩
          · as_aux_lemma =>
            have hma2 : (mb != ad) = true := by unfold bne; rw [hma]; rfl
            have hme : mayE t ad = false := by
              unfold mayE
              rw [← unhide hmb, hma]
              simp
            have C : Hid (∀ y, G wb y → Calls Tryz.prog 17 #[.pointer (some ⟨L.x.hb, 0, none⟩), .int .i64 t.ad, .int .i64 F, .bool ad] y fun e w' => e = .returned (.tuple #[.int .i64 0, .int .i64 1]) ∧ G y w') := hide fun y gy => by
              obtain ⟨Tq, _, hy, C⟩ := pq_at (hide ((unhide P1).gr gy)) t.ad F ad
              obtain rfl := (hy k t (unhide ht) rfl).1 hme
              exact C
            replace k1 := hide k1
            replace hme := hide hme
            go_upto_region 26 with fail
            go_quiet (fail)
            go_wp2_with fail
            refine (unhide C _ (by first | exact G.drewN _ _ | exact (G.refl _).drew | exact G.refl _)).mono ?_
            rintro e w1 ⟨rfl, g1⟩
            replace g1 := hide (G.trans ((by first | exact G.drewN _ _ | exact (G.refl _).drew | exact G.refl _) : G wb _) g1)
            clear C
            go_wp2_with fail
            go_ret
            exact ⟨rfl, ts, (unhide P1).gr (unhide g1)⟩
        · as_aux_lemma =>
          have b1 : (t.s.k != 1) = true := by simpa using k1
          have hme : mayE t ad = false := by
            unfold mayE
            simp [k1]
          have C : Hid (∀ y, G wb y → Calls Tryz.prog 17 #[.pointer (some ⟨L.x.hb, 0, none⟩), .int .i64 t.ad, .int .i64 F, .bool ad] y fun e w' => e = .returned (.tuple #[.int .i64 0, .int .i64 1]) ∧ G y w') := hide fun y gy => by
            obtain ⟨Tq, _, hy, C⟩ := pq_at (hide ((unhide P1).gr gy)) t.ad F ad
            obtain rfl := (hy k t (unhide ht) rfl).1 hme
            exact C
          replace k1 := hide k1
          replace hme := hide hme
          go_wp2_with fail
          refine (unhide C _ (by first | exact G.drewN _ _ | exact (G.refl _).drew | exact G.refl _)).mono ?_
          rintro e w1 ⟨rfl, g1⟩
          replace g1 := hide (G.trans ((by first | exact G.drewN _ _ | exact (G.refl _).drew | exact G.refl _) : G wb _) g1)
          clear C
          go_wp2_with fail
          go_ret
          exact ⟨rfl, ts, (unhide P1).gr (unhide g1)⟩
      · --<D
        have hw1 : wrap64 ((t.wd : Int) - 1) = (t.wd : Int) - 1 := by have := unhide FT; unfold wrap64; omega
        obtain ⟨z, hz⟩ : ∃ z : Int, z = (t.wd : Int) - 2 := ⟨_, rfl⟩
        have hw2 : wrap64 ((t.wd : Int) - 2) = z := by have := unhide FT; rw [hz]; unfold wrap64; omega
        have hw2' : IntKind.i64.wrap ((t.wd : Int) - 2) = z := by rw [IntKind.wrap_i64]; have := unhide FT; rw [hz]; omega
        replace hz := hide hz
        obtain ⟨mb, hmb⟩ : ∃ mb : Bool, mb = decide (t.s.m = 1) := ⟨_, rfl⟩
        have em : ((t.s.m : Int) == 1) = mb := by rw [hmb, Bool.eq_iff_iff]; simp; omega
        replace hmb := hide hmb
        by_cases k1 : t.s.k = 1
        · have b1 : (t.s.k != 1) = false := by simpa using k1
          rcases Bool.eq_false_or_eq_true (mb == ad) with hma | hma
          · have hma2 : (mb != ad) = false := by unfold bne; rw [hma]; rfl
            have hme : mayE t ad = true := by
              unfold mayE
              rw [← unhide hmb, hma]
              simp [k1]
            by_cases ho : F < 0 ∨ z < F
            · as_aux_lemma =>
              have hout : F < 0 ∨ (t.wd : Int) - 2 < F := by rw [← unhide hz]; exact ho
              have C : Hid (∀ y, G wb y → Calls Tryz.prog 16 #[.pointer (some ⟨L.x.hb, 0, none⟩), .int .i64 t.ad, .int .i64 F, .int .i64 V, .bool ad, .bool true, .int .i64 1] y fun e w' => e = .returned (.int .i64 2) ∧ G y w') := hide fun y gy => pq_put_out (hide ((unhide P1).gr gy)) (unhide ht) F V ad true 1 hme hout
              replace k1 := hide k1
              replace hme := hide hme
              replace hout := hide hout
              by_cases f0 : F < 0
              · have b2 : decide (F < 0) = true := by simpa using f0
                replace f0 := hide f0
                replace ho := hide ho
                go_upto_region 26 with fail
                go_quiet (fail)
                go_upto_region 28 with fail
                go_quiet (fail)
                go_wp2_with fail
                refine (unhide C _ (by first | exact G.drewN _ _ | exact (G.refl _).drew | exact G.refl _)).mono ?_
                rintro e w1 ⟨rfl, g1⟩
                replace g1 := hide (G.trans ((by first | exact G.drewN _ _ | exact (G.refl _).drew | exact G.refl _) : G wb _) g1)
                clear C
                go_wp2_with fail
                go_ret
                exact ⟨rfl, ts, (unhide P1).gr (unhide g1)⟩
              · have b2 : decide (F < 0) = false := by simpa using f0
                have b3 : decide (z < F) = true := by simp; omega
                replace f0 := hide f0
                replace ho := hide ho
                go_upto_region 26 with fail
                go_quiet (fail)
                go_upto_region 28 with fail
                go_quiet (fail)
                go_wp2_with fail
                refine (unhide C _ (by first | exact G.drewN _ _ | exact (G.refl _).drew | exact G.refl _)).mono ?_
                rintro e w1 ⟨rfl, g1⟩
                replace g1 := hide (G.trans ((by first | exact G.drewN _ _ | exact (G.refl _).drew | exact G.refl _) : G wb _) g1)
                clear C
                go_wp2_with fail
                go_ret
                exact ⟨rfl, ts, (unhide P1).gr (unhide g1)⟩
            · as_aux_lemma =>
              have b2 : decide (F < 0) = false := by simp; omega
              have b3 : decide (z < F) = false := by simp; omega
              obtain ⟨fn, hfn, hfw⟩ : ∃ fn : Nat, F = fn ∧ fn + 1 < t.wd := ⟨F.toNat, by omega, by have := unhide hz; omega⟩
              subst hfn
              have C : Hid (∀ y, G wb y → Calls Tryz.prog 16 #[.pointer (some ⟨L.x.hb, 0, none⟩), .int .i64 t.ad, .int .i64 (fn : Int), .int .i64 V, .bool ad, .bool true, .int .i64 1] y fun e w' => e = .returned (.int .i64 0) ∧ Pq L (.slice (some ⟨g, 0, none⟩) T tc) rv sv (ts.set k { t with v := t.v.set fn V }) ts vo lr l ll w' ∧ w'.cell? ⟨w.heap.size, 0, none⟩ = some (.int .i64 4) ∧ w'.cell? ⟨w.heap.size, 5, none⟩ = some (.int .i64 V)) := hide fun y gy => by
                refine (pq_put9 (w := w) h ((unhide gb).trans gy) (unhide ht) hme hfw V true 1).mono ?_
                rintro e w' ⟨he, P3, kp⟩
                have kx : w'.heap[w.heap.size]? = y.heap[w.heap.size]? := kp _ (Nat.le_refl _) (World.block_lt_of_cell? _ _ (gy.cell x0))
                exact ⟨he, P3, (World.cell?_of_block (a := ⟨w.heap.size, 0, none⟩) kx).trans (gy.cell x0), (World.cell?_of_block (a := ⟨w.heap.size, 5, none⟩) kx).trans (gy.cell x5)⟩
              have hix : (fn : Int) < ((t.wd - 1 : Nat) : Int) := by omega
              have hfl : Hid (fn < t.v.length) := hide (by have := unhide FT; omega)
              replace k1 := hide k1
              replace hme := hide hme
              replace ho := hide ho
              replace hfw := hide hfw
              go_upto_region 26 with fail
              go_quiet (fail)
              go_upto_region 28 with fail
              go_quiet (fail)
              go_wp2_with fail
              refine (unhide C _ (by first | exact G.drewN _ _ | exact (G.refl _).drew | exact G.refl _)).mono ?_
              rintro e w1 ⟨rfl, P3, y0, y5⟩
              obtain ⟨g2, cap2, b2', e2, hb2, V2, cc2⟩ := P3.lq.thing (unhide ht)
              obtain ⟨rfl, _⟩ : g = g2 ∧ True := by
                have := e2
                simp at this
                exact ⟨this.1, trivial⟩
              rw [unhide hb] at hb2
              obtain rfl := Option.some.inj hb2
              have d5 : w1.cell? ⟨g, k * 6 + 5, none⟩ = some (.slice (some ⟨b, 0, none⟩) (t.wd - 1) (t.wd - 1)) := cc2 5 _ rfl
              have vf : w1.cell? ⟨b, fn, none⟩ = some (.int .i64 (t.v[fn]'(unhide hfl))) := V2.cs fn _ (List.getElem?_eq_getElem (unhide hfl))
              have vz := V2.fz fn
              have P4 := hide (P3.store (unhide hS) (unhide ht) (unhide hb) (unhide hfl) V)
              replace P3 := hide P3
              clear C hb2 e2 cc2 V2
              go_upto_region 50 with fail
              go_region
              all_goals
                go_wp2_with fail
                go_ret
                exact ⟨rfl, _, (unhide P4).gr (by first | exact (G.refl _).drew | exact G.refl _ | exact G.drewN _ _)⟩
          · as_aux_lemma =>
            have hma2 : (mb != ad) = true := by unfold bne; rw [hma]; rfl
            have hme : mayE t ad = false := by
              unfold mayE
              rw [← unhide hmb, hma]
              simp
            have C : Hid (∀ y, G wb y → Calls Tryz.prog 16 #[.pointer (some ⟨L.x.hb, 0, none⟩), .int .i64 t.ad, .int .i64 F, .int .i64 V, .bool ad, .bool true, .int .i64 1] y fun e w' => e = .returned (.int .i64 1) ∧ G y w') := hide fun y gy => pq_put_no (hide ((unhide P1).gr gy)) t.ad F V ad true 1 (Or.inr ⟨k, t, unhide ht, rfl, hme⟩)
            replace k1 := hide k1
            replace hme := hide hme
            go_upto_region 26 with fail
            go_quiet (fail)
            go_wp2_with fail
            refine (unhide C _ (by first | exact G.drewN _ _ | exact (G.refl _).drew | exact G.refl _)).mono ?_
            rintro e w1 ⟨rfl, g1⟩
            replace g1 := hide (G.trans ((by first | exact G.drewN _ _ | exact (G.refl _).drew | exact G.refl _) : G wb _) g1)
            clear C
            go_wp2_with fail
            go_ret
            exact ⟨rfl, ts, (unhide P1).gr (unhide g1)⟩
        · as_aux_lemma =>
          have b1 : (t.s.k != 1) = true := by simpa using k1
          have hme : mayE t ad = false := by
            unfold mayE
            simp [k1]
          have C : Hid (∀ y, G wb y → Calls Tryz.prog 16 #[.pointer (some ⟨L.x.hb, 0, none⟩), .int .i64 t.ad, .int .i64 F, .int .i64 V, .bool ad, .bool true, .int .i64 1] y fun e w' => e = .returned (.int .i64 1) ∧ G y w') := hide fun y gy => pq_put_no (hide ((unhide P1).gr gy)) t.ad F V ad true 1 (Or.inr ⟨k, t, unhide ht, rfl, hme⟩)
          replace k1 := hide k1
          replace hme := hide hme
          go_wp2_with fail
          refine (unhide C _ (by first | exact G.drewN _ _ | exact (G.refl _).drew | exact G.refl _)).mono ?_
          rintro e w1 ⟨rfl, g1⟩
          replace g1 := hide (G.trans ((by first | exact G.drewN _ _ | exact (G.refl _).drew | exact G.refl _) : G wb _) g1)
          clear C
          go_wp2_with fail
          go_ret
          exact ⟨rfl, ts, (unhide P1).gr (unhide g1)⟩
      · --<E
        have hw1 : wrap64 ((t.wd : Int) - 1) = (t.wd : Int) - 1 := by have := unhide FT; unfold wrap64; omega
        obtain ⟨z, hz⟩ : ∃ z : Int, z = (t.wd : Int) - 2 := ⟨_, rfl⟩
        have hw2 : wrap64 ((t.wd : Int) - 2) = z := by have := unhide FT; rw [hz]; unfold wrap64; omega
        have hw2' : IntKind.i64.wrap ((t.wd : Int) - 2) = z := by rw [IntKind.wrap_i64]; have := unhide FT; rw [hz]; omega
        replace hz := hide hz
        obtain ⟨mb, hmb⟩ : ∃ mb : Bool, mb = decide (t.s.m = 1) := ⟨_, rfl⟩
        have em : ((t.s.m : Int) == 1) = mb := by rw [hmb, Bool.eq_iff_iff]; simp; omega
        replace hmb := hide hmb
        obtain ⟨Tq, _, hy, C⟩ := pq_len P1 t.ad
        by_cases k1 : t.s.k = 1
        · as_aux_lemma =>
          have b1 : (t.s.k != 1) = false := by simpa using k1
          obtain rfl := (hy k t (unhide ht) rfl).1 k1
          replace C := hide C
          replace k1 := hide k1
          clear hy
          go_wp2_with fail
          refine (unhide C).mono ?_
          rintro e w1 ⟨rfl, g1⟩
          have v4 := g1.cell c4
          replace g1 := hide g1
          clear C
          go_wp2_with fail
          go_ret
          exact ⟨rfl, ts, (unhide P1).gr (unhide g1)⟩
        · as_aux_lemma =>
          have b1 : (t.s.k != 1) = true := by simpa using k1
          obtain rfl := (hy k t (unhide ht) rfl).2 k1
          replace C := hide C
          replace k1 := hide k1
          clear hy
          go_wp2_with fail
          refine (unhide C).mono ?_
          rintro e w1 ⟨rfl, g1⟩
          replace g1 := hide g1
          clear C
          go_wp2_with fail
          go_ret
          exact ⟨rfl, ts, (unhide P1).gr (unhide g1)⟩
end Go.Proofs.YtahhkehijokhnaaGreatDoor
