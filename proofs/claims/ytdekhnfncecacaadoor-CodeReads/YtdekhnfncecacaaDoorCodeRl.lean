/- readList of package code at its types. -/
import Derived.Test.YtdekhnfncecacaaDoorCodeRl0
namespace Go.Proofs.YtdekhnfncecacaaDoor
set_option maxRecDepth 100000
open Go.RowKit Go.Maps Go.ChangeShapes Go.WideShapes Go.ChangeAt Go.Deep

theorem mk_shape (n : Nat) (hn : n ≤ 10000000) (w : World) : (Instr.makeSlice 22 (.int .u64 (n : Int)) (.int .u64 (n : Int))).run Tryd.prog w = .ok (.slice (some ⟨w.heap.size, 0, none⟩) n n) (w.alloc (.cells (madeCells #[.int .i64 0, .int .i64 0, .int .u64 0] (n * 3)) 64)) := by
  obtain ⟨i, hi, hz, hs, hb⟩ := info_parts info_shape
  have := run_make (P := Tryd.prog) w 22 64 i (.agg #[.int .i64 0, .int .i64 0, .int .u64 0]) Tryd.underlying22 hi hz .u64 .u64 (n : Int) (n : Int) (by omega) (by omega) (by rw [hb]; omega) (by omega)
  rw [this, hs, Int.toNat_natCast]
  rfl

theorem rl_each_shape {w0 w1 : World} {rb n k : Nat} {s1 : Option (List Int)} {wr : World} (hrb : w0.heap.size ≤ rb) (hrb1 : rb < w1.heap.size) (g0 : Below w0.heap.size w0 w1) (h : RlInv elSp pSp oSp w0 w1 rb n s1 k wr) (hk : k < n) :
    Calls Tryd.prog 60 #[.pointer (some ⟨rb, 0, none⟩)] wr fun e w' => ∃ (v : Value) (a : Sp) (cs : List Value) (s' : Option (List Int)), e = .returned v ∧ (fun v cs => v = .agg cs.toArray) v cs ∧ elSp.cs w' a cs ∧ RlPost elSp pSp oSp w0 w1 rb n s1 k s' cs w' := by
  refine rl_round okSp hrb1 h hk 60 (fun v cs => v = .agg cs.toArray) (fun sk h1 ht => ?_)
  have g1 : Below w0.heap.size w0 wr := Below.trans g0 (ht.below g0.size hrb)
  refine (r_shape w0 wr rb sk hrb g1 h1).mono ?_
  rintro e w' ⟨a, s', rfl, oa, ra, k1⟩
  exact ⟨_, a, [.int .i64 a.k, .int .i64 a.f, .int .u64 (a.m : Int)], s', rfl, rfl, fun _ _ => rfl, oa, ra, k1⟩

set_option maxHeartbeats 1000000 in
theorem rl_shape (w0 w : World) (rb : Nat) (s : Option (List Int)) (hrb : w0.heap.size ≤ rb) (g0 : Below w0.heap.size w0 w) (h : RdS w0 w rb s) :
    Calls Tryd.prog 59 #[.pointer (some ⟨rb, 0, none⟩), .int .i64 3, .func (.func 60) #[] #[]] w fun e w' => ∃ (ao : Option Addr) (n c : Nat) (l : List Sp) (s' : Option (List Int)), e = .returned (.slice ao n c) ∧ RowIn w.heap.size elSp w' ao n c l ∧ (∀ a ∈ l, oSp a) ∧ Res (pL pSp) s l s' ∧ RdTo w0 w w' rb s' := by
  have N := hide (r_number w0 w rb s g0 h)
  have hlt := h.lt
  have hB := g0.size
  have G0 := hide g0
  clear h g0
  go_enter Tryd.func59, Tryd.ntmps59
  go_wp2_with fail
  refine (unhide N).mono ?_
  rintro e w1 ⟨u, s1, rfl, hu, hr, h0, h1, hT⟩
  clear N
  obtain ⟨ro, m, rc, hc0, hm, hm0, hmz, rv, rbad, hRC⟩ := rl_rest h1
  have hrb1 : rb < w1.heap.size := Nat.lt_of_lt_of_le hlt hT.size
  have hG1 := hide (show Below w0.heap.size w0 w1 from Below.trans (unhide G0) (hT.below hB hrb))
  by_cases hgt : m / 3 < u
  · have Fa := hide (r_fail w1 rb rv rbad hRC)
    have K := hide (rl_many cSp hr hmz (by decide) hgt)
    have HT := hide hT
    have hgi : ((m : Int) / 3) < (u : Int) := by omega
    have hui : (u : Int) < 18446744073709551616 := by unfold oU at hu; omega
    clear hr h0 h1 hT hm0 hmz hRC hu hgt
    go_wp2_with fail
    refine (unhide Fa).mono ?_
    rintro e w2 ⟨rfl, k1, k2⟩
    have K2 := hide (show RdTo w0 w w2 rb none from ⟨k1, (unhide HT).trans k2⟩)
    clear Fa k1 k2 HT
    go_wp2_with fail
    go_ret
    exact ⟨none, 0, 0, [], none, rfl, RowIn.nil _ _ _, (fun a ha => by cases ha), unhide K, unhide K2⟩
  · have hun : u ≤ 10000000 := by omega
    have hgi : ¬ ((m : Int) / 3) < (u : Int) := by omega
    have hmk := mk_shape u hun
    have ST := rl_start elSp pSp oSp u h1 #[.int .i64 0, .int .i64 0, .int .u64 0] 64
    replace ST := hide ST
    have EN := hide (fun wr => rl_end (E := elSp) (p := pSp) (ok := oSp) (w0 := w0) (wr := wr) hun hr hT)
    have HR := hide hr
    have HT := hide hT
    clear hr h0 h1 hT hm0 hmz hRC hu hgt
    go_wp2_with fail
    go_loopw [28] (fun i wr => ∃ k : Nat, k ≤ u ∧ i = .int .i64 k ∧ Hid (RlInv elSp pSp oSp w0 w1 rb u s1 k wr)) (fun i _ => u - (intOf i).toNat)
    case atStart => exact ⟨0, Nat.zero_le _, rfl, ST⟩
    case round =>
      obtain ⟨k, hk, rfl, HI⟩ := hrel
      clear ST hc0
      by_cases hlk : k < u
      · have C := hide (rl_each_shape hrb hrb1 (unhide hG1) (unhide HI) hlk)
        clear HI
        go_wp2_with fail
        refine (unhide C).mono ?_
        rintro e w2 ⟨v, a, cs, s', rfl, hV, hcs, hcl, hbad, hno, hyes⟩
        clear C
        have hcs : cs = [.int .i64 a.k, .int .i64 a.f, .int .u64 (a.m : Int)] := hcs
        subst hcs
        have hV : v = .agg #[.int .i64 a.k, .int .i64 a.f, .int .u64 (a.m : Int)] := hV
        subst hV
        obtain ⟨⟨x0, hx0⟩, hf0⟩ : (∃ x, w2.cell? ⟨w1.heap.size, k * 3, none⟩ = some x) ∧ w2.frozen? ⟨w1.heap.size, k * 3, none⟩ = false := by
          have q := hcl 0 (by decide)
          change (w2.cell? ⟨w1.heap.size, k * 3, none⟩).isSome = true ∧ w2.frozen? ⟨w1.heap.size, k * 3, none⟩ = false at q
          exact ⟨Option.isSome_iff_exists.1 q.1, q.2⟩
        obtain ⟨⟨x1, hx1⟩, hf1⟩ : (∃ x, w2.cell? ⟨w1.heap.size, k * 3 + 1, none⟩ = some x) ∧ w2.frozen? ⟨w1.heap.size, k * 3 + 1, none⟩ = false := by
          have q := hcl 1 (by decide)
          change (w2.cell? ⟨w1.heap.size, k * 3 + 1, none⟩).isSome = true ∧ w2.frozen? ⟨w1.heap.size, k * 3 + 1, none⟩ = false at q
          exact ⟨Option.isSome_iff_exists.1 q.1, q.2⟩
        obtain ⟨⟨x2, hx2⟩, hf2⟩ : (∃ x, w2.cell? ⟨w1.heap.size, k * 3 + 2, none⟩ = some x) ∧ w2.frozen? ⟨w1.heap.size, k * 3 + 2, none⟩ = false := by
          have q := hcl 2 (by decide)
          change (w2.cell? ⟨w1.heap.size, k * 3 + 2, none⟩).isSome = true ∧ w2.frozen? ⟨w1.heap.size, k * 3 + 2, none⟩ = false at q
          exact ⟨Option.isSome_iff_exists.1 q.1, q.2⟩
        have hlb : ¬ rb = w1.heap.size := by omega
        have eWF : setN w2 w1.heap.size (k * elSp.sz) [.int .i64 a.k, .int .i64 a.f, .int .u64 (a.m : Int)] = (((w2.setCell ⟨w1.heap.size, k * 3, none⟩ (.int .i64 a.k)).setCell ⟨w1.heap.size, k * 3 + 1, none⟩ (.int .i64 a.f)).setCell ⟨w1.heap.size, k * 3 + 2, none⟩ (.int .u64 (a.m : Int))) := by
          rfl
        rw [eWF] at hno hyes
        clear hcl eWF
        cases s' with
        | none =>
          obtain ⟨q1, q2⟩ := hno rfl
          obtain ⟨lx, q2⟩ := q2
          have K := hide (show Res (pL pSp) s ([] : List Sp) none ∧ RdTo w0 w _ rb none from ⟨Res.dead (unhide HR) q2 hlk, q1.from (unhide HT)⟩)
          have hbad : w2.cell? ⟨rb, 1, none⟩ = some (.bool true) := hbad
          clear hno hyes q1 q2 HR HT EN
          go_wp2_with fail
          go_ret
          exact ⟨none, 0, 0, [], none, rfl, RowIn.nil _ _ _, (fun a ha => by cases ha), (unhide K).1, (unhide K).2⟩
        | some r =>
          have K := hide (hyes r rfl)
          have hbad : w2.cell? ⟨rb, 1, none⟩ = some (.bool false) := hbad
          clear hno hyes HR HT EN
          go_wp2_with fail
          go_roundw
          case rel => exact ⟨k + 1, by omega, by go_num, K⟩
          case measure => simp [intOf]; omega
      · obtain rfl : k = u := by omega
        obtain ⟨l, s', e1, e2, e3, e4⟩ := unhide EN wr (unhide HI)
        have K := hide (show RowIn w.heap.size elSp wr (some ⟨w1.heap.size, 0, none⟩) k k l ∧ (∀ a ∈ l, oSp a) ∧ Res (pL pSp) s l s' ∧ RdTo w0 w wr rb s' from ⟨e1, e2, e3, e4⟩)
        clear HI EN e1 e2 e3 e4 HR HT
        go_wp2_with fail
        go_ret
        exact ⟨_, _, _, l, s', rfl, unhide K⟩

theorem mk_bool (n : Nat) (hn : n ≤ 10000000) (w : World) : (Instr.makeSlice 23 (.int .u64 (n : Int)) (.int .u64 (n : Int))).run Tryd.prog w = .ok (.slice (some ⟨w.heap.size, 0, none⟩) n n) (w.alloc (.cells (madeCells #[.bool false] (n * 1)) 4)) := by
  obtain ⟨i, hi, hz, hs, hb⟩ := info_parts info_bool
  have := run_make (P := Tryd.prog) w 23 4 i (.bool false) Tryd.underlying23 hi hz .u64 .u64 (n : Int) (n : Int) (by omega) (by omega) (by rw [hb]; omega) (by omega)
  rw [this, hs, Int.toNat_natCast]
  rfl

theorem rl_each_bool {w0 w1 : World} {rb n k : Nat} {s1 : Option (List Int)} {wr : World} (hrb : w0.heap.size ≤ rb) (hrb1 : rb < w1.heap.size) (g0 : Below w0.heap.size w0 w1) (h : RlInv elB pB oB w0 w1 rb n s1 k wr) (hk : k < n) :
    Calls Tryd.prog 62 #[.pointer (some ⟨rb, 0, none⟩)] wr fun e w' => ∃ (v : Value) (a : Bool) (cs : List Value) (s' : Option (List Int)), e = .returned v ∧ (fun v cs => cs = [v]) v cs ∧ elB.cs w' a cs ∧ RlPost elB pB oB w0 w1 rb n s1 k s' cs w' := by
  refine rl_round okB hrb1 h hk 62 (fun v cs => cs = [v]) (fun sk h1 ht => ?_)
  have g1 : Below w0.heap.size w0 wr := Below.trans g0 (ht.below g0.size hrb)
  refine (r_truth w0 wr rb sk g1 h1).mono ?_
  rintro e w' ⟨a, s', rfl, oa, ra, k1⟩
  exact ⟨_, a, [.bool a], s', rfl, rfl, fun _ _ => rfl, oa, ra, k1⟩

set_option maxHeartbeats 1000000 in
theorem rl_bool (w0 w : World) (rb : Nat) (s : Option (List Int)) (hrb : w0.heap.size ≤ rb) (g0 : Below w0.heap.size w0 w) (h : RdS w0 w rb s) :
    Calls Tryd.prog 61 #[.pointer (some ⟨rb, 0, none⟩), .int .i64 1, .func (.func 62) #[] #[]] w fun e w' => ∃ (ao : Option Addr) (n c : Nat) (l : List Bool) (s' : Option (List Int)), e = .returned (.slice ao n c) ∧ RowIn w.heap.size elB w' ao n c l ∧ (∀ a ∈ l, oB a) ∧ Res (pL pB) s l s' ∧ RdTo w0 w w' rb s' := by
  have N := hide (r_number w0 w rb s g0 h)
  have hlt := h.lt
  have hB := g0.size
  have G0 := hide g0
  clear h g0
  go_enter Tryd.func61, Tryd.ntmps61
  go_wp2_with fail
  refine (unhide N).mono ?_
  rintro e w1 ⟨u, s1, rfl, hu, hr, h0, h1, hT⟩
  clear N
  obtain ⟨ro, m, rc, hc0, hm, hm0, hmz, rv, rbad, hRC⟩ := rl_rest h1
  have hrb1 : rb < w1.heap.size := Nat.lt_of_lt_of_le hlt hT.size
  have hG1 := hide (show Below w0.heap.size w0 w1 from Below.trans (unhide G0) (hT.below hB hrb))
  by_cases hgt : m / 1 < u
  · have Fa := hide (r_fail w1 rb rv rbad hRC)
    have K := hide (rl_many cB hr hmz (by decide) hgt)
    have HT := hide hT
    have hgi : m < u := by omega
    have hui : (u : Int) < 18446744073709551616 := by unfold oU at hu; omega
    clear hr h0 h1 hT hm0 hmz hRC hu hgt
    go_wp2_with fail
    refine (unhide Fa).mono ?_
    rintro e w2 ⟨rfl, k1, k2⟩
    have K2 := hide (show RdTo w0 w w2 rb none from ⟨k1, (unhide HT).trans k2⟩)
    clear Fa k1 k2 HT
    go_wp2_with fail
    go_ret
    exact ⟨none, 0, 0, [], none, rfl, RowIn.nil _ _ _, (fun a ha => by cases ha), unhide K, unhide K2⟩
  · have hun : u ≤ 10000000 := by omega
    have hgi : ¬ m < u := by omega
    have hmk := mk_bool u hun
    have ST := rl_start elB pB oB u h1 #[.bool false] 4
    rw [show u * elB.sz = u from Nat.mul_one u] at ST
    replace ST := hide ST
    have EN := hide (fun wr => rl_end (E := elB) (p := pB) (ok := oB) (w0 := w0) (wr := wr) hun hr hT)
    have HR := hide hr
    have HT := hide hT
    clear hr h0 h1 hT hm0 hmz hRC hu hgt
    go_wp2_with fail
    go_loopw [28] (fun i wr => ∃ k : Nat, k ≤ u ∧ i = .int .i64 k ∧ Hid (RlInv elB pB oB w0 w1 rb u s1 k wr)) (fun i _ => u - (intOf i).toNat)
    case atStart => exact ⟨0, Nat.zero_le _, rfl, ST⟩
    case round =>
      obtain ⟨k, hk, rfl, HI⟩ := hrel
      clear ST hc0
      by_cases hlk : k < u
      · have C := hide (rl_each_bool hrb hrb1 (unhide hG1) (unhide HI) hlk)
        clear HI
        go_wp2_with fail
        refine (unhide C).mono ?_
        rintro e w2 ⟨v, a, cs, s', rfl, hV, hcs, hcl, hbad, hno, hyes⟩
        clear C
        have hcs : cs = [.bool a] := hcs
        subst hcs
        have hV : .bool a = v := by simpa using hV
        subst hV
        obtain ⟨⟨x0, hx0⟩, hf0⟩ : (∃ x, w2.cell? ⟨w1.heap.size, k, none⟩ = some x) ∧ w2.frozen? ⟨w1.heap.size, k, none⟩ = false := by
          have q := hcl 0 (by decide)
          change (w2.cell? ⟨w1.heap.size, k * 1, none⟩).isSome = true ∧ w2.frozen? ⟨w1.heap.size, k * 1, none⟩ = false at q
          rw [Nat.mul_one] at q
          exact ⟨Option.isSome_iff_exists.1 q.1, q.2⟩
        have hlb : ¬ rb = w1.heap.size := by omega
        have eWF : setN w2 w1.heap.size (k * elB.sz) [.bool a] = (w2.setCell ⟨w1.heap.size, k, none⟩ (.bool a)) := by
          show setN w2 w1.heap.size (k * 1) [.bool a] = _
          rw [Nat.mul_one]
          rfl
        rw [eWF] at hno hyes
        clear hcl eWF
        cases s' with
        | none =>
          obtain ⟨q1, q2⟩ := hno rfl
          obtain ⟨lx, q2⟩ := q2
          have K := hide (show Res (pL pB) s ([] : List Bool) none ∧ RdTo w0 w _ rb none from ⟨Res.dead (unhide HR) q2 hlk, q1.from (unhide HT)⟩)
          have hbad : w2.cell? ⟨rb, 1, none⟩ = some (.bool true) := hbad
          clear hno hyes q1 q2 HR HT EN
          go_wp2_with fail
          go_ret
          exact ⟨none, 0, 0, [], none, rfl, RowIn.nil _ _ _, (fun a ha => by cases ha), (unhide K).1, (unhide K).2⟩
        | some r =>
          have K := hide (hyes r rfl)
          have hbad : w2.cell? ⟨rb, 1, none⟩ = some (.bool false) := hbad
          clear hno hyes HR HT EN
          go_wp2_with fail
          go_roundw
          case rel => exact ⟨k + 1, by omega, by go_num, K⟩
          case measure => simp [intOf]; omega
      · obtain rfl : k = u := by omega
        obtain ⟨l, s', e1, e2, e3, e4⟩ := unhide EN wr (unhide HI)
        have K := hide (show RowIn w.heap.size elB wr (some ⟨w1.heap.size, 0, none⟩) k k l ∧ (∀ a ∈ l, oB a) ∧ Res (pL pB) s l s' ∧ RdTo w0 w wr rb s' from ⟨e1, e2, e3, e4⟩)
        clear HI EN e1 e2 e3 e4 HR HT
        go_wp2_with fail
        go_ret
        exact ⟨_, _, _, l, s', rfl, unhide K⟩

theorem mk_int64 (n : Nat) (hn : n ≤ 10000000) (w : World) : (Instr.makeSlice 24 (.int .u64 (n : Int)) (.int .u64 (n : Int))).run Tryd.prog w = .ok (.slice (some ⟨w.heap.size, 0, none⟩) n n) (w.alloc (.cells (madeCells #[.int .i64 0] (n * 1)) 2)) := by
  obtain ⟨i, hi, hz, hs, hb⟩ := info_parts info_int64
  have := run_make (P := Tryd.prog) w 24 2 i (.int .i64 0) Tryd.underlying24 hi hz .u64 .u64 (n : Int) (n : Int) (by omega) (by omega) (by rw [hb]; omega) (by omega)
  rw [this, hs, Int.toNat_natCast]
  rfl

theorem rl_each_int64 {w0 w1 : World} {rb n k : Nat} {s1 : Option (List Int)} {wr : World} (hrb : w0.heap.size ≤ rb) (hrb1 : rb < w1.heap.size) (g0 : Below w0.heap.size w0 w1) (h : RlInv elI pI oI w0 w1 rb n s1 k wr) (hk : k < n) :
    Calls Tryd.prog 64 #[.pointer (some ⟨rb, 0, none⟩)] wr fun e w' => ∃ (v : Value) (a : Int) (cs : List Value) (s' : Option (List Int)), e = .returned v ∧ (fun v cs => cs = [v]) v cs ∧ elI.cs w' a cs ∧ RlPost elI pI oI w0 w1 rb n s1 k s' cs w' := by
  refine rl_round okI hrb1 h hk 64 (fun v cs => cs = [v]) (fun sk h1 ht => ?_)
  have g1 : Below w0.heap.size w0 wr := Below.trans g0 (ht.below g0.size hrb)
  refine (r_signed w0 wr rb sk g1 h1).mono ?_
  rintro e w' ⟨a, s', rfl, oa, ra, k1⟩
  exact ⟨_, a, [.int .i64 a], s', rfl, rfl, fun _ _ => rfl, oa, ra, k1⟩

set_option maxHeartbeats 1000000 in
theorem rl_int64 (w0 w : World) (rb : Nat) (s : Option (List Int)) (hrb : w0.heap.size ≤ rb) (g0 : Below w0.heap.size w0 w) (h : RdS w0 w rb s) :
    Calls Tryd.prog 63 #[.pointer (some ⟨rb, 0, none⟩), .int .i64 1, .func (.func 64) #[] #[]] w fun e w' => ∃ (ao : Option Addr) (n c : Nat) (l : List Int) (s' : Option (List Int)), e = .returned (.slice ao n c) ∧ RowIn w.heap.size elI w' ao n c l ∧ (∀ a ∈ l, oI a) ∧ Res (pL pI) s l s' ∧ RdTo w0 w w' rb s' := by
  have N := hide (r_number w0 w rb s g0 h)
  have hlt := h.lt
  have hB := g0.size
  have G0 := hide g0
  clear h g0
  go_enter Tryd.func63, Tryd.ntmps63
  go_wp2_with fail
  refine (unhide N).mono ?_
  rintro e w1 ⟨u, s1, rfl, hu, hr, h0, h1, hT⟩
  clear N
  obtain ⟨ro, m, rc, hc0, hm, hm0, hmz, rv, rbad, hRC⟩ := rl_rest h1
  have hrb1 : rb < w1.heap.size := Nat.lt_of_lt_of_le hlt hT.size
  have hG1 := hide (show Below w0.heap.size w0 w1 from Below.trans (unhide G0) (hT.below hB hrb))
  by_cases hgt : m / 1 < u
  · have Fa := hide (r_fail w1 rb rv rbad hRC)
    have K := hide (rl_many cI hr hmz (by decide) hgt)
    have HT := hide hT
    have hgi : m < u := by omega
    have hui : (u : Int) < 18446744073709551616 := by unfold oU at hu; omega
    clear hr h0 h1 hT hm0 hmz hRC hu hgt
    go_wp2_with fail
    refine (unhide Fa).mono ?_
    rintro e w2 ⟨rfl, k1, k2⟩
    have K2 := hide (show RdTo w0 w w2 rb none from ⟨k1, (unhide HT).trans k2⟩)
    clear Fa k1 k2 HT
    go_wp2_with fail
    go_ret
    exact ⟨none, 0, 0, [], none, rfl, RowIn.nil _ _ _, (fun a ha => by cases ha), unhide K, unhide K2⟩
  · have hun : u ≤ 10000000 := by omega
    have hgi : ¬ m < u := by omega
    have hmk := mk_int64 u hun
    have ST := rl_start elI pI oI u h1 #[.int .i64 0] 2
    rw [show u * elI.sz = u from Nat.mul_one u] at ST
    replace ST := hide ST
    have EN := hide (fun wr => rl_end (E := elI) (p := pI) (ok := oI) (w0 := w0) (wr := wr) hun hr hT)
    have HR := hide hr
    have HT := hide hT
    clear hr h0 h1 hT hm0 hmz hRC hu hgt
    go_wp2_with fail
    go_loopw [28] (fun i wr => ∃ k : Nat, k ≤ u ∧ i = .int .i64 k ∧ Hid (RlInv elI pI oI w0 w1 rb u s1 k wr)) (fun i _ => u - (intOf i).toNat)
    case atStart => exact ⟨0, Nat.zero_le _, rfl, ST⟩
    case round =>
      obtain ⟨k, hk, rfl, HI⟩ := hrel
      clear ST hc0
      by_cases hlk : k < u
      · have C := hide (rl_each_int64 hrb hrb1 (unhide hG1) (unhide HI) hlk)
        clear HI
        go_wp2_with fail
        refine (unhide C).mono ?_
        rintro e w2 ⟨v, a, cs, s', rfl, hV, hcs, hcl, hbad, hno, hyes⟩
        clear C
        have hcs : cs = [.int .i64 a] := hcs
        subst hcs
        have hV : .int .i64 a = v := by simpa using hV
        subst hV
        obtain ⟨⟨x0, hx0⟩, hf0⟩ : (∃ x, w2.cell? ⟨w1.heap.size, k, none⟩ = some x) ∧ w2.frozen? ⟨w1.heap.size, k, none⟩ = false := by
          have q := hcl 0 (by decide)
          change (w2.cell? ⟨w1.heap.size, k * 1, none⟩).isSome = true ∧ w2.frozen? ⟨w1.heap.size, k * 1, none⟩ = false at q
          rw [Nat.mul_one] at q
          exact ⟨Option.isSome_iff_exists.1 q.1, q.2⟩
        have hlb : ¬ rb = w1.heap.size := by omega
        have eWF : setN w2 w1.heap.size (k * elI.sz) [.int .i64 a] = (w2.setCell ⟨w1.heap.size, k, none⟩ (.int .i64 a)) := by
          show setN w2 w1.heap.size (k * 1) [.int .i64 a] = _
          rw [Nat.mul_one]
          rfl
        rw [eWF] at hno hyes
        clear hcl eWF
        cases s' with
        | none =>
          obtain ⟨q1, q2⟩ := hno rfl
          obtain ⟨lx, q2⟩ := q2
          have K := hide (show Res (pL pI) s ([] : List Int) none ∧ RdTo w0 w _ rb none from ⟨Res.dead (unhide HR) q2 hlk, q1.from (unhide HT)⟩)
          have hbad : w2.cell? ⟨rb, 1, none⟩ = some (.bool true) := hbad
          clear hno hyes q1 q2 HR HT EN
          go_wp2_with fail
          go_ret
          exact ⟨none, 0, 0, [], none, rfl, RowIn.nil _ _ _, (fun a ha => by cases ha), (unhide K).1, (unhide K).2⟩
        | some r =>
          have K := hide (hyes r rfl)
          have hbad : w2.cell? ⟨rb, 1, none⟩ = some (.bool false) := hbad
          clear hno hyes HR HT EN
          go_wp2_with fail
          go_roundw
          case rel => exact ⟨k + 1, by omega, by go_num, K⟩
          case measure => simp [intOf]; omega
      · obtain rfl : k = u := by omega
        obtain ⟨l, s', e1, e2, e3, e4⟩ := unhide EN wr (unhide HI)
        have K := hide (show RowIn w.heap.size elI wr (some ⟨w1.heap.size, 0, none⟩) k k l ∧ (∀ a ∈ l, oI a) ∧ Res (pL pI) s l s' ∧ RdTo w0 w wr rb s' from ⟨e1, e2, e3, e4⟩)
        clear HI EN e1 e2 e3 e4 HR HT
        go_wp2_with fail
        go_ret
        exact ⟨_, _, _, l, s', rfl, unhide K⟩

theorem mk_uint64 (n : Nat) (hn : n ≤ 10000000) (w : World) : (Instr.makeSlice 55 (.int .u64 (n : Int)) (.int .u64 (n : Int))).run Tryd.prog w = .ok (.slice (some ⟨w.heap.size, 0, none⟩) n n) (w.alloc (.cells (madeCells #[.int .u64 0] (n * 1)) 62)) := by
  obtain ⟨i, hi, hz, hs, hb⟩ := info_parts info_uint64
  have := run_make (P := Tryd.prog) w 55 62 i (.int .u64 0) Tryd.underlying55 hi hz .u64 .u64 (n : Int) (n : Int) (by omega) (by omega) (by rw [hb]; omega) (by omega)
  rw [this, hs, Int.toNat_natCast]
  rfl

theorem rl_each_uint64 {w0 w1 : World} {rb n k : Nat} {s1 : Option (List Int)} {wr : World} (hrb : w0.heap.size ≤ rb) (hrb1 : rb < w1.heap.size) (g0 : Below w0.heap.size w0 w1) (h : RlInv elU pU oU w0 w1 rb n s1 k wr) (hk : k < n) :
    Calls Tryd.prog 76 #[.pointer (some ⟨rb, 0, none⟩)] wr fun e w' => ∃ (v : Value) (a : Nat) (cs : List Value) (s' : Option (List Int)), e = .returned v ∧ (fun v cs => cs = [v]) v cs ∧ elU.cs w' a cs ∧ RlPost elU pU oU w0 w1 rb n s1 k s' cs w' := by
  refine rl_round okU hrb1 h hk 76 (fun v cs => cs = [v]) (fun sk h1 ht => ?_)
  have g1 : Below w0.heap.size w0 wr := Below.trans g0 (ht.below g0.size hrb)
  refine (r_number w0 wr rb sk g1 h1).mono ?_
  rintro e w' ⟨a, s', rfl, oa, ra, _, k1⟩
  exact ⟨_, a, [.int .u64 (a : Int)], s', rfl, rfl, fun _ _ => rfl, oa, ra, k1⟩

set_option maxHeartbeats 1000000 in
theorem rl_uint64 (w0 w : World) (rb : Nat) (s : Option (List Int)) (hrb : w0.heap.size ≤ rb) (g0 : Below w0.heap.size w0 w) (h : RdS w0 w rb s) :
    Calls Tryd.prog 81 #[.pointer (some ⟨rb, 0, none⟩), .int .i64 1, .func (.func 76) #[] #[]] w fun e w' => ∃ (ao : Option Addr) (n c : Nat) (l : List Nat) (s' : Option (List Int)), e = .returned (.slice ao n c) ∧ RowIn w.heap.size elU w' ao n c l ∧ (∀ a ∈ l, oU a) ∧ Res (pL pU) s l s' ∧ RdTo w0 w w' rb s' := by
  have N := hide (r_number w0 w rb s g0 h)
  have hlt := h.lt
  have hB := g0.size
  have G0 := hide g0
  clear h g0
  go_enter Tryd.func81, Tryd.ntmps81
  go_wp2_with fail
  refine (unhide N).mono ?_
  rintro e w1 ⟨u, s1, rfl, hu, hr, h0, h1, hT⟩
  clear N
  obtain ⟨ro, m, rc, hc0, hm, hm0, hmz, rv, rbad, hRC⟩ := rl_rest h1
  have hrb1 : rb < w1.heap.size := Nat.lt_of_lt_of_le hlt hT.size
  have hG1 := hide (show Below w0.heap.size w0 w1 from Below.trans (unhide G0) (hT.below hB hrb))
  by_cases hgt : m / 1 < u
  · have Fa := hide (r_fail w1 rb rv rbad hRC)
    have K := hide (rl_many cU hr hmz (by decide) hgt)
    have HT := hide hT
    have hgi : m < u := by omega
    have hui : (u : Int) < 18446744073709551616 := by unfold oU at hu; omega
    clear hr h0 h1 hT hm0 hmz hRC hu hgt
    go_wp2_with fail
    refine (unhide Fa).mono ?_
    rintro e w2 ⟨rfl, k1, k2⟩
    have K2 := hide (show RdTo w0 w w2 rb none from ⟨k1, (unhide HT).trans k2⟩)
    clear Fa k1 k2 HT
    go_wp2_with fail
    go_ret
    exact ⟨none, 0, 0, [], none, rfl, RowIn.nil _ _ _, (fun a ha => by cases ha), unhide K, unhide K2⟩
  · have hun : u ≤ 10000000 := by omega
    have hgi : ¬ m < u := by omega
    have hmk := mk_uint64 u hun
    have ST := rl_start elU pU oU u h1 #[.int .u64 0] 62
    rw [show u * elU.sz = u from Nat.mul_one u] at ST
    replace ST := hide ST
    have EN := hide (fun wr => rl_end (E := elU) (p := pU) (ok := oU) (w0 := w0) (wr := wr) hun hr hT)
    have HR := hide hr
    have HT := hide hT
    clear hr h0 h1 hT hm0 hmz hRC hu hgt
    go_wp2_with fail
    go_loopw [28] (fun i wr => ∃ k : Nat, k ≤ u ∧ i = .int .i64 k ∧ Hid (RlInv elU pU oU w0 w1 rb u s1 k wr)) (fun i _ => u - (intOf i).toNat)
    case atStart => exact ⟨0, Nat.zero_le _, rfl, ST⟩
    case round =>
      obtain ⟨k, hk, rfl, HI⟩ := hrel
      clear ST hc0
      by_cases hlk : k < u
      · have C := hide (rl_each_uint64 hrb hrb1 (unhide hG1) (unhide HI) hlk)
        clear HI
        go_wp2_with fail
        refine (unhide C).mono ?_
        rintro e w2 ⟨v, a, cs, s', rfl, hV, hcs, hcl, hbad, hno, hyes⟩
        clear C
        have hcs : cs = [.int .u64 (a : Int)] := hcs
        subst hcs
        have hV : .int .u64 (a : Int) = v := by simpa using hV
        subst hV
        obtain ⟨⟨x0, hx0⟩, hf0⟩ : (∃ x, w2.cell? ⟨w1.heap.size, k, none⟩ = some x) ∧ w2.frozen? ⟨w1.heap.size, k, none⟩ = false := by
          have q := hcl 0 (by decide)
          change (w2.cell? ⟨w1.heap.size, k * 1, none⟩).isSome = true ∧ w2.frozen? ⟨w1.heap.size, k * 1, none⟩ = false at q
          rw [Nat.mul_one] at q
          exact ⟨Option.isSome_iff_exists.1 q.1, q.2⟩
        have hlb : ¬ rb = w1.heap.size := by omega
        have eWF : setN w2 w1.heap.size (k * elU.sz) [.int .u64 (a : Int)] = (w2.setCell ⟨w1.heap.size, k, none⟩ (.int .u64 (a : Int))) := by
          show setN w2 w1.heap.size (k * 1) [.int .u64 (a : Int)] = _
          rw [Nat.mul_one]
          rfl
        rw [eWF] at hno hyes
        clear hcl eWF
        cases s' with
        | none =>
          obtain ⟨q1, q2⟩ := hno rfl
          obtain ⟨lx, q2⟩ := q2
          have K := hide (show Res (pL pU) s ([] : List Nat) none ∧ RdTo w0 w _ rb none from ⟨Res.dead (unhide HR) q2 hlk, q1.from (unhide HT)⟩)
          have hbad : w2.cell? ⟨rb, 1, none⟩ = some (.bool true) := hbad
          clear hno hyes q1 q2 HR HT EN
          go_wp2_with fail
          go_ret
          exact ⟨none, 0, 0, [], none, rfl, RowIn.nil _ _ _, (fun a ha => by cases ha), (unhide K).1, (unhide K).2⟩
        | some r =>
          have K := hide (hyes r rfl)
          have hbad : w2.cell? ⟨rb, 1, none⟩ = some (.bool false) := hbad
          clear hno hyes HR HT EN
          go_wp2_with fail
          go_roundw
          case rel => exact ⟨k + 1, by omega, by go_num, K⟩
          case measure => simp [intOf]; omega
      · obtain rfl : k = u := by omega
        obtain ⟨l, s', e1, e2, e3, e4⟩ := unhide EN wr (unhide HI)
        have K := hide (show RowIn w.heap.size elU wr (some ⟨w1.heap.size, 0, none⟩) k k l ∧ (∀ a ∈ l, oU a) ∧ Res (pL pU) s l s' ∧ RdTo w0 w wr rb s' from ⟨e1, e2, e3, e4⟩)
        clear HI EN e1 e2 e3 e4 HR HT
        go_wp2_with fail
        go_ret
        exact ⟨_, _, _, l, s', rfl, unhide K⟩

theorem mk_case (n : Nat) (hn : n ≤ 10000000) (w : World) : (Instr.makeSlice 25 (.int .u64 (n : Int)) (.int .u64 (n : Int))).run Tryd.prog w = .ok (.slice (some ⟨w.heap.size, 0, none⟩) n n) (w.alloc (.cells (madeCells #[.int .i64 0, .int .i64 0, .int .i64 0, .int .i64 0] (n * 4)) 75)) := by
  obtain ⟨i, hi, hz, hs, hb⟩ := info_parts info_case
  have := run_make (P := Tryd.prog) w 25 75 i (.agg #[.int .i64 0, .int .i64 0, .int .i64 0, .int .i64 0]) Tryd.underlying25 hi hz .u64 .u64 (n : Int) (n : Int) (by omega) (by omega) (by rw [hb]; omega) (by omega)
  rw [this, hs, Int.toNat_natCast]
  rfl

theorem rl_each_case {w0 w1 : World} {rb n k : Nat} {s1 : Option (List Int)} {wr : World} (hrb : w0.heap.size ≤ rb) (hrb1 : rb < w1.heap.size) (g0 : Below w0.heap.size w0 w1) (h : RlInv elCa pCa oCa w0 w1 rb n s1 k wr) (hk : k < n) :
    Calls Tryd.prog 66 #[.pointer (some ⟨rb, 0, none⟩)] wr fun e w' => ∃ (v : Value) (a : Ca) (cs : List Value) (s' : Option (List Int)), e = .returned v ∧ (fun v cs => v = .agg cs.toArray) v cs ∧ elCa.cs w' a cs ∧ RlPost elCa pCa oCa w0 w1 rb n s1 k s' cs w' := by
  refine rl_round okCa hrb1 h hk 66 (fun v cs => v = .agg cs.toArray) (fun sk h1 ht => ?_)
  have g1 : Below w0.heap.size w0 wr := Below.trans g0 (ht.below g0.size hrb)
  refine (r_choice w0 wr rb sk hrb g1 h1).mono ?_
  rintro e w' ⟨a, s', rfl, oa, ra, k1⟩
  exact ⟨_, a, [.int .i64 a.k, .int .i64 a.c, .int .i64 a.v, .int .i64 a.t], s', rfl, rfl, fun _ _ => rfl, oa, ra, k1⟩

set_option maxHeartbeats 1000000 in
theorem rl_case (w0 w : World) (rb : Nat) (s : Option (List Int)) (hrb : w0.heap.size ≤ rb) (g0 : Below w0.heap.size w0 w) (h : RdS w0 w rb s) :
    Calls Tryd.prog 65 #[.pointer (some ⟨rb, 0, none⟩), .int .i64 4, .func (.func 66) #[] #[]] w fun e w' => ∃ (ao : Option Addr) (n c : Nat) (l : List Ca) (s' : Option (List Int)), e = .returned (.slice ao n c) ∧ RowIn w.heap.size elCa w' ao n c l ∧ (∀ a ∈ l, oCa a) ∧ Res (pL pCa) s l s' ∧ RdTo w0 w w' rb s' := by
  have N := hide (r_number w0 w rb s g0 h)
  have hlt := h.lt
  have hB := g0.size
  have G0 := hide g0
  clear h g0
  go_enter Tryd.func65, Tryd.ntmps65
  go_wp2_with fail
  refine (unhide N).mono ?_
  rintro e w1 ⟨u, s1, rfl, hu, hr, h0, h1, hT⟩
  clear N
  obtain ⟨ro, m, rc, hc0, hm, hm0, hmz, rv, rbad, hRC⟩ := rl_rest h1
  have hrb1 : rb < w1.heap.size := Nat.lt_of_lt_of_le hlt hT.size
  have hG1 := hide (show Below w0.heap.size w0 w1 from Below.trans (unhide G0) (hT.below hB hrb))
  by_cases hgt : m / 4 < u
  · have Fa := hide (r_fail w1 rb rv rbad hRC)
    have K := hide (rl_many cCa hr hmz (by decide) hgt)
    have HT := hide hT
    have hgi : ((m : Int) / 4) < (u : Int) := by omega
    have hui : (u : Int) < 18446744073709551616 := by unfold oU at hu; omega
    clear hr h0 h1 hT hm0 hmz hRC hu hgt
    go_wp2_with fail
    refine (unhide Fa).mono ?_
    rintro e w2 ⟨rfl, k1, k2⟩
    have K2 := hide (show RdTo w0 w w2 rb none from ⟨k1, (unhide HT).trans k2⟩)
    clear Fa k1 k2 HT
    go_wp2_with fail
    go_ret
    exact ⟨none, 0, 0, [], none, rfl, RowIn.nil _ _ _, (fun a ha => by cases ha), unhide K, unhide K2⟩
  · have hun : u ≤ 10000000 := by omega
    have hgi : ¬ ((m : Int) / 4) < (u : Int) := by omega
    have hmk := mk_case u hun
    have ST := rl_start elCa pCa oCa u h1 #[.int .i64 0, .int .i64 0, .int .i64 0, .int .i64 0] 75
    replace ST := hide ST
    have EN := hide (fun wr => rl_end (E := elCa) (p := pCa) (ok := oCa) (w0 := w0) (wr := wr) hun hr hT)
    have HR := hide hr
    have HT := hide hT
    clear hr h0 h1 hT hm0 hmz hRC hu hgt
    go_wp2_with fail
    go_loopw [28] (fun i wr => ∃ k : Nat, k ≤ u ∧ i = .int .i64 k ∧ Hid (RlInv elCa pCa oCa w0 w1 rb u s1 k wr)) (fun i _ => u - (intOf i).toNat)
    case atStart => exact ⟨0, Nat.zero_le _, rfl, ST⟩
    case round =>
      obtain ⟨k, hk, rfl, HI⟩ := hrel
      clear ST hc0
      by_cases hlk : k < u
      · have C := hide (rl_each_case hrb hrb1 (unhide hG1) (unhide HI) hlk)
        clear HI
        go_wp2_with fail
        refine (unhide C).mono ?_
        rintro e w2 ⟨v, a, cs, s', rfl, hV, hcs, hcl, hbad, hno, hyes⟩
        clear C
        have hcs : cs = [.int .i64 a.k, .int .i64 a.c, .int .i64 a.v, .int .i64 a.t] := hcs
        subst hcs
        have hV : v = .agg #[.int .i64 a.k, .int .i64 a.c, .int .i64 a.v, .int .i64 a.t] := hV
        subst hV
        obtain ⟨⟨x0, hx0⟩, hf0⟩ : (∃ x, w2.cell? ⟨w1.heap.size, k * 4, none⟩ = some x) ∧ w2.frozen? ⟨w1.heap.size, k * 4, none⟩ = false := by
          have q := hcl 0 (by decide)
          change (w2.cell? ⟨w1.heap.size, k * 4, none⟩).isSome = true ∧ w2.frozen? ⟨w1.heap.size, k * 4, none⟩ = false at q
          exact ⟨Option.isSome_iff_exists.1 q.1, q.2⟩
        obtain ⟨⟨x1, hx1⟩, hf1⟩ : (∃ x, w2.cell? ⟨w1.heap.size, k * 4 + 1, none⟩ = some x) ∧ w2.frozen? ⟨w1.heap.size, k * 4 + 1, none⟩ = false := by
          have q := hcl 1 (by decide)
          change (w2.cell? ⟨w1.heap.size, k * 4 + 1, none⟩).isSome = true ∧ w2.frozen? ⟨w1.heap.size, k * 4 + 1, none⟩ = false at q
          exact ⟨Option.isSome_iff_exists.1 q.1, q.2⟩
        obtain ⟨⟨x2, hx2⟩, hf2⟩ : (∃ x, w2.cell? ⟨w1.heap.size, k * 4 + 2, none⟩ = some x) ∧ w2.frozen? ⟨w1.heap.size, k * 4 + 2, none⟩ = false := by
          have q := hcl 2 (by decide)
          change (w2.cell? ⟨w1.heap.size, k * 4 + 2, none⟩).isSome = true ∧ w2.frozen? ⟨w1.heap.size, k * 4 + 2, none⟩ = false at q
          exact ⟨Option.isSome_iff_exists.1 q.1, q.2⟩
        obtain ⟨⟨x3, hx3⟩, hf3⟩ : (∃ x, w2.cell? ⟨w1.heap.size, k * 4 + 3, none⟩ = some x) ∧ w2.frozen? ⟨w1.heap.size, k * 4 + 3, none⟩ = false := by
          have q := hcl 3 (by decide)
          change (w2.cell? ⟨w1.heap.size, k * 4 + 3, none⟩).isSome = true ∧ w2.frozen? ⟨w1.heap.size, k * 4 + 3, none⟩ = false at q
          exact ⟨Option.isSome_iff_exists.1 q.1, q.2⟩
        have hlb : ¬ rb = w1.heap.size := by omega
        have eWF : setN w2 w1.heap.size (k * elCa.sz) [.int .i64 a.k, .int .i64 a.c, .int .i64 a.v, .int .i64 a.t] = ((((w2.setCell ⟨w1.heap.size, k * 4, none⟩ (.int .i64 a.k)).setCell ⟨w1.heap.size, k * 4 + 1, none⟩ (.int .i64 a.c)).setCell ⟨w1.heap.size, k * 4 + 2, none⟩ (.int .i64 a.v)).setCell ⟨w1.heap.size, k * 4 + 3, none⟩ (.int .i64 a.t)) := by
          rfl
        rw [eWF] at hno hyes
        clear hcl eWF
        cases s' with
        | none =>
          obtain ⟨q1, q2⟩ := hno rfl
          obtain ⟨lx, q2⟩ := q2
          have K := hide (show Res (pL pCa) s ([] : List Ca) none ∧ RdTo w0 w _ rb none from ⟨Res.dead (unhide HR) q2 hlk, q1.from (unhide HT)⟩)
          have hbad : w2.cell? ⟨rb, 1, none⟩ = some (.bool true) := hbad
          clear hno hyes q1 q2 HR HT EN
          go_wp2_with fail
          go_ret
          exact ⟨none, 0, 0, [], none, rfl, RowIn.nil _ _ _, (fun a ha => by cases ha), (unhide K).1, (unhide K).2⟩
        | some r =>
          have K := hide (hyes r rfl)
          have hbad : w2.cell? ⟨rb, 1, none⟩ = some (.bool false) := hbad
          clear hno hyes HR HT EN
          go_wp2_with fail
          go_roundw
          case rel => exact ⟨k + 1, by omega, by go_num, K⟩
          case measure => simp [intOf]; omega
      · obtain rfl : k = u := by omega
        obtain ⟨l, s', e1, e2, e3, e4⟩ := unhide EN wr (unhide HI)
        have K := hide (show RowIn w.heap.size elCa wr (some ⟨w1.heap.size, 0, none⟩) k k l ∧ (∀ a ∈ l, oCa a) ∧ Res (pL pCa) s l s' ∧ RdTo w0 w wr rb s' from ⟨e1, e2, e3, e4⟩)
        clear HI EN e1 e2 e3 e4 HR HT
        go_wp2_with fail
        go_ret
        exact ⟨_, _, _, l, s', rfl, unhide K⟩

theorem mk_instr (n : Nat) (hn : n ≤ 10000000) (w : World) : (Instr.makeSlice 54 (.int .u64 (n : Int)) (.int .u64 (n : Int))).run Tryd.prog w = .ok (.slice (some ⟨w.heap.size, 0, none⟩) n n) (w.alloc (.cells (madeCells #[.int .i64 0, .int .i64 0, .int .i64 0, .int .i64 0, .int .i64 0] (n * 5)) 51)) := by
  obtain ⟨i, hi, hz, hs, hb⟩ := info_parts info_instr
  have := run_make (P := Tryd.prog) w 54 51 i (.agg #[.int .i64 0, .int .i64 0, .int .i64 0, .int .i64 0, .int .i64 0]) Tryd.underlying54 hi hz .u64 .u64 (n : Int) (n : Int) (by omega) (by omega) (by rw [hb]; omega) (by omega)
  rw [this, hs, Int.toNat_natCast]
  rfl

theorem rl_each_instr {w0 w1 : World} {rb n k : Nat} {s1 : Option (List Int)} {wr : World} (hrb : w0.heap.size ≤ rb) (hrb1 : rb < w1.heap.size) (g0 : Below w0.heap.size w0 w1) (h : RlInv elIn pIn oIn w0 w1 rb n s1 k wr) (hk : k < n) :
    Calls Tryd.prog 80 #[.pointer (some ⟨rb, 0, none⟩)] wr fun e w' => ∃ (v : Value) (a : In) (cs : List Value) (s' : Option (List Int)), e = .returned v ∧ (fun v cs => v = .agg cs.toArray) v cs ∧ elIn.cs w' a cs ∧ RlPost elIn pIn oIn w0 w1 rb n s1 k s' cs w' := by
  refine rl_round okIn hrb1 h hk 80 (fun v cs => v = .agg cs.toArray) (fun sk h1 ht => ?_)
  have g1 : Below w0.heap.size w0 wr := Below.trans g0 (ht.below g0.size hrb)
  refine (r_instr w0 wr rb sk hrb g1 h1).mono ?_
  rintro e w' ⟨a, s', rfl, oa, ra, k1⟩
  exact ⟨_, a, [.int .i64 a.op, .int .i64 a.a, .int .i64 a.b, .int .i64 a.c, .int .i64 a.d], s', rfl, rfl, fun _ _ => rfl, oa, ra, k1⟩

set_option maxHeartbeats 1000000 in
theorem rl_instr (w0 w : World) (rb : Nat) (s : Option (List Int)) (hrb : w0.heap.size ≤ rb) (g0 : Below w0.heap.size w0 w) (h : RdS w0 w rb s) :
    Calls Tryd.prog 79 #[.pointer (some ⟨rb, 0, none⟩), .int .i64 5, .func (.func 80) #[] #[]] w fun e w' => ∃ (ao : Option Addr) (n c : Nat) (l : List In) (s' : Option (List Int)), e = .returned (.slice ao n c) ∧ RowIn w.heap.size elIn w' ao n c l ∧ (∀ a ∈ l, oIn a) ∧ Res (pL pIn) s l s' ∧ RdTo w0 w w' rb s' := by
  have N := hide (r_number w0 w rb s g0 h)
  have hlt := h.lt
  have hB := g0.size
  have G0 := hide g0
  clear h g0
  go_enter Tryd.func79, Tryd.ntmps79
  go_wp2_with fail
  refine (unhide N).mono ?_
  rintro e w1 ⟨u, s1, rfl, hu, hr, h0, h1, hT⟩
  clear N
  obtain ⟨ro, m, rc, hc0, hm, hm0, hmz, rv, rbad, hRC⟩ := rl_rest h1
  have hrb1 : rb < w1.heap.size := Nat.lt_of_lt_of_le hlt hT.size
  have hG1 := hide (show Below w0.heap.size w0 w1 from Below.trans (unhide G0) (hT.below hB hrb))
  by_cases hgt : m / 5 < u
  · have Fa := hide (r_fail w1 rb rv rbad hRC)
    have K := hide (rl_many cIn hr hmz (by decide) hgt)
    have HT := hide hT
    have hgi : ((m : Int) / 5) < (u : Int) := by omega
    have hui : (u : Int) < 18446744073709551616 := by unfold oU at hu; omega
    clear hr h0 h1 hT hm0 hmz hRC hu hgt
    go_wp2_with fail
    refine (unhide Fa).mono ?_
    rintro e w2 ⟨rfl, k1, k2⟩
    have K2 := hide (show RdTo w0 w w2 rb none from ⟨k1, (unhide HT).trans k2⟩)
    clear Fa k1 k2 HT
    go_wp2_with fail
    go_ret
    exact ⟨none, 0, 0, [], none, rfl, RowIn.nil _ _ _, (fun a ha => by cases ha), unhide K, unhide K2⟩
  · have hun : u ≤ 10000000 := by omega
    have hgi : ¬ ((m : Int) / 5) < (u : Int) := by omega
    have hmk := mk_instr u hun
    have ST := rl_start elIn pIn oIn u h1 #[.int .i64 0, .int .i64 0, .int .i64 0, .int .i64 0, .int .i64 0] 51
    replace ST := hide ST
    have EN := hide (fun wr => rl_end (E := elIn) (p := pIn) (ok := oIn) (w0 := w0) (wr := wr) hun hr hT)
    have HR := hide hr
    have HT := hide hT
    clear hr h0 h1 hT hm0 hmz hRC hu hgt
    go_wp2_with fail
    go_loopw [28] (fun i wr => ∃ k : Nat, k ≤ u ∧ i = .int .i64 k ∧ Hid (RlInv elIn pIn oIn w0 w1 rb u s1 k wr)) (fun i _ => u - (intOf i).toNat)
    case atStart => exact ⟨0, Nat.zero_le _, rfl, ST⟩
    case round =>
      obtain ⟨k, hk, rfl, HI⟩ := hrel
      clear ST hc0
      by_cases hlk : k < u
      · have C := hide (rl_each_instr hrb hrb1 (unhide hG1) (unhide HI) hlk)
        clear HI
        go_wp2_with fail
        refine (unhide C).mono ?_
        rintro e w2 ⟨v, a, cs, s', rfl, hV, hcs, hcl, hbad, hno, hyes⟩
        clear C
        have hcs : cs = [.int .i64 a.op, .int .i64 a.a, .int .i64 a.b, .int .i64 a.c, .int .i64 a.d] := hcs
        subst hcs
        have hV : v = .agg #[.int .i64 a.op, .int .i64 a.a, .int .i64 a.b, .int .i64 a.c, .int .i64 a.d] := hV
        subst hV
        obtain ⟨⟨x0, hx0⟩, hf0⟩ : (∃ x, w2.cell? ⟨w1.heap.size, k * 5, none⟩ = some x) ∧ w2.frozen? ⟨w1.heap.size, k * 5, none⟩ = false := by
          have q := hcl 0 (by decide)
          change (w2.cell? ⟨w1.heap.size, k * 5, none⟩).isSome = true ∧ w2.frozen? ⟨w1.heap.size, k * 5, none⟩ = false at q
          exact ⟨Option.isSome_iff_exists.1 q.1, q.2⟩
        obtain ⟨⟨x1, hx1⟩, hf1⟩ : (∃ x, w2.cell? ⟨w1.heap.size, k * 5 + 1, none⟩ = some x) ∧ w2.frozen? ⟨w1.heap.size, k * 5 + 1, none⟩ = false := by
          have q := hcl 1 (by decide)
          change (w2.cell? ⟨w1.heap.size, k * 5 + 1, none⟩).isSome = true ∧ w2.frozen? ⟨w1.heap.size, k * 5 + 1, none⟩ = false at q
          exact ⟨Option.isSome_iff_exists.1 q.1, q.2⟩
        obtain ⟨⟨x2, hx2⟩, hf2⟩ : (∃ x, w2.cell? ⟨w1.heap.size, k * 5 + 2, none⟩ = some x) ∧ w2.frozen? ⟨w1.heap.size, k * 5 + 2, none⟩ = false := by
          have q := hcl 2 (by decide)
          change (w2.cell? ⟨w1.heap.size, k * 5 + 2, none⟩).isSome = true ∧ w2.frozen? ⟨w1.heap.size, k * 5 + 2, none⟩ = false at q
          exact ⟨Option.isSome_iff_exists.1 q.1, q.2⟩
        obtain ⟨⟨x3, hx3⟩, hf3⟩ : (∃ x, w2.cell? ⟨w1.heap.size, k * 5 + 3, none⟩ = some x) ∧ w2.frozen? ⟨w1.heap.size, k * 5 + 3, none⟩ = false := by
          have q := hcl 3 (by decide)
          change (w2.cell? ⟨w1.heap.size, k * 5 + 3, none⟩).isSome = true ∧ w2.frozen? ⟨w1.heap.size, k * 5 + 3, none⟩ = false at q
          exact ⟨Option.isSome_iff_exists.1 q.1, q.2⟩
        obtain ⟨⟨x4, hx4⟩, hf4⟩ : (∃ x, w2.cell? ⟨w1.heap.size, k * 5 + 4, none⟩ = some x) ∧ w2.frozen? ⟨w1.heap.size, k * 5 + 4, none⟩ = false := by
          have q := hcl 4 (by decide)
          change (w2.cell? ⟨w1.heap.size, k * 5 + 4, none⟩).isSome = true ∧ w2.frozen? ⟨w1.heap.size, k * 5 + 4, none⟩ = false at q
          exact ⟨Option.isSome_iff_exists.1 q.1, q.2⟩
        have hlb : ¬ rb = w1.heap.size := by omega
        have eWF : setN w2 w1.heap.size (k * elIn.sz) [.int .i64 a.op, .int .i64 a.a, .int .i64 a.b, .int .i64 a.c, .int .i64 a.d] = (((((w2.setCell ⟨w1.heap.size, k * 5, none⟩ (.int .i64 a.op)).setCell ⟨w1.heap.size, k * 5 + 1, none⟩ (.int .i64 a.a)).setCell ⟨w1.heap.size, k * 5 + 2, none⟩ (.int .i64 a.b)).setCell ⟨w1.heap.size, k * 5 + 3, none⟩ (.int .i64 a.c)).setCell ⟨w1.heap.size, k * 5 + 4, none⟩ (.int .i64 a.d)) := by
          rfl
        rw [eWF] at hno hyes
        clear hcl eWF
        cases s' with
        | none =>
          obtain ⟨q1, q2⟩ := hno rfl
          obtain ⟨lx, q2⟩ := q2
          have K := hide (show Res (pL pIn) s ([] : List In) none ∧ RdTo w0 w _ rb none from ⟨Res.dead (unhide HR) q2 hlk, q1.from (unhide HT)⟩)
          have hbad : w2.cell? ⟨rb, 1, none⟩ = some (.bool true) := hbad
          clear hno hyes q1 q2 HR HT EN
          go_wp2_with fail
          go_ret
          exact ⟨none, 0, 0, [], none, rfl, RowIn.nil _ _ _, (fun a ha => by cases ha), (unhide K).1, (unhide K).2⟩
        | some r =>
          have K := hide (hyes r rfl)
          have hbad : w2.cell? ⟨rb, 1, none⟩ = some (.bool false) := hbad
          clear hno hyes HR HT EN
          go_wp2_with fail
          go_roundw
          case rel => exact ⟨k + 1, by omega, by go_num, K⟩
          case measure => simp [intOf]; omega
      · obtain rfl : k = u := by omega
        obtain ⟨l, s', e1, e2, e3, e4⟩ := unhide EN wr (unhide HI)
        have K := hide (show RowIn w.heap.size elIn wr (some ⟨w1.heap.size, 0, none⟩) k k l ∧ (∀ a ∈ l, oIn a) ∧ Res (pL pIn) s l s' ∧ RdTo w0 w wr rb s' from ⟨e1, e2, e3, e4⟩)
        clear HI EN e1 e2 e3 e4 HR HT
        go_wp2_with fail
        go_ret
        exact ⟨_, _, _, l, s', rfl, unhide K⟩
end Go.Proofs.YtdekhnfncecacaaDoor
