/- readList of package code at its types. -/
import Derived.Test.YtdekhnfncecacaaDoorCodeRfn
namespace Go.Proofs.YtdekhnfncecacaaDoor
set_option maxRecDepth 100000
open Go.RowKit Go.Maps Go.ChangeShapes Go.WideShapes Go.ChangeAt Go.Deep

theorem mk_func (n : Nat) (hn : n ≤ 10000000) (w : World) : (Instr.makeSlice 26 (.int .u64 (n : Int)) (.int .u64 (n : Int))).run Tryd.prog w = .ok (.slice (some ⟨w.heap.size, 0, none⟩) n n) (w.alloc (.cells (madeCells #[.int .i64 0, .int .i64 0, .int .i64 0, .int .i64 0, .slice none 0 0, .slice none 0 0, .slice none 0 0] (n * 7)) 57)) := by
  obtain ⟨i, hi, hz, hs, hb⟩ := info_parts info_func
  have := run_make (P := Tryd.prog) w 26 57 i (.agg #[.int .i64 0, .int .i64 0, .int .i64 0, .int .i64 0, .slice none 0 0, .slice none 0 0, .slice none 0 0]) Tryd.underlying26 hi hz .u64 .u64 (n : Int) (n : Int) (by omega) (by omega) (by rw [hb]; omega) (by omega)
  rw [this, hs, Int.toNat_natCast]
  rfl

theorem rl_each_func {w0 w1 : World} {rb n k : Nat} {s1 : Option (List Int)} {wr : World} (hrb : w0.heap.size ≤ rb) (hrb1 : rb < w1.heap.size) (g0 : Below w0.heap.size w0 w1) (h : RlInv elFn pFn oFn w0 w1 rb n s1 k wr) (hk : k < n) :
    Calls Tryd.prog 68 #[.pointer (some ⟨rb, 0, none⟩)] wr fun e w' => ∃ (v : Value) (a : Fn) (cs : List Value) (s' : Option (List Int)), e = .returned v ∧ (fun v cs => v = .agg cs.toArray) v cs ∧ elFn.cs w' a cs ∧ RlPost elFn pFn oFn w0 w1 rb n s1 k s' cs w' := by
  refine rl_round okFn hrb1 h hk 68 (fun v cs => v = .agg cs.toArray) (fun sk h1 ht => ?_)
  have g1 : Below w0.heap.size w0 wr := Below.trans g0 (ht.below g0.size hrb)
  refine (r_function w0 wr rb sk hrb g1 h1).mono ?_
  rintro e w' ⟨a, s', ko, kc, io, ic, mo, mc, rfl, hin, oa, ra, k1⟩
  exact ⟨_, a, [.int .i64 a.p, .int .i64 a.c, .int .i64 a.s, .int .i64 a.r, .slice ko a.ks.length kc, .slice io a.is.length ic, .slice mo a.ms.length mc], s', rfl, rfl, fun w2 k2 => hin w2 k2, oa, ra, k1⟩

set_option maxHeartbeats 1000000 in
theorem rl_func (w0 w : World) (rb : Nat) (s : Option (List Int)) (hrb : w0.heap.size ≤ rb) (g0 : Below w0.heap.size w0 w) (h : RdS w0 w rb s) :
    Calls Tryd.prog 67 #[.pointer (some ⟨rb, 0, none⟩), .int .i64 7, .func (.func 68) #[] #[]] w fun e w' => ∃ (ao : Option Addr) (n c : Nat) (l : List Fn) (s' : Option (List Int)), e = .returned (.slice ao n c) ∧ RowIn w.heap.size elFn w' ao n c l ∧ (∀ a ∈ l, oFn a) ∧ Res (pL pFn) s l s' ∧ RdTo w0 w w' rb s' := by
  have N := hide (r_number w0 w rb s g0 h)
  have hlt := h.lt
  have hB := g0.size
  have G0 := hide g0
  clear h g0
  go_enter Tryd.func67, Tryd.ntmps67
  go_wp2_with fail
  refine (unhide N).mono ?_
  rintro e w1 ⟨u, s1, rfl, hu, hr, h0, h1, hT⟩
  clear N
  obtain ⟨ro, m, rc, hc0, hm, hm0, hmz, rv, rbad, hRC⟩ := rl_rest h1
  have hrb1 : rb < w1.heap.size := Nat.lt_of_lt_of_le hlt hT.size
  have hG1 := hide (show Below w0.heap.size w0 w1 from Below.trans (unhide G0) (hT.below hB hrb))
  by_cases hgt : m / 7 < u
  · have Fa := hide (r_fail w1 rb rv rbad hRC)
    have K := hide (rl_many cFn hr hmz (by decide) hgt)
    have HT := hide hT
    have hgi : ((m : Int) / 7) < (u : Int) := by omega
    have hui : (u : Int) < 18446744073709551616 := by unfold oU at hu; omega
    clear hr h0 h1 hT hm0 hmz hRC hu hgt
    go_wp2_with fail
    refine (unhide Fa).mono ?_
    rintro e w2 ⟨rfl, k1, k2⟩
    have K2 := hide (show RdTo w0 w w2 rb none from ⟨k1, (unhide HT).trans k2⟩)
    clear Fa k1 k2 HT
    go_wp2_with fail
    go_ret
    exact ⟨none, 0, 0, [], none, rfl, RowIn.nil _ _ _, (fun a ha => by cases ha), unhide K, unhide K2⟩
  · have hun : u ≤ 10000000 := by omega
    have hgi : ¬ ((m : Int) / 7) < (u : Int) := by omega
    have hmk := mk_func u hun
    have ST := rl_start elFn pFn oFn u h1 #[.int .i64 0, .int .i64 0, .int .i64 0, .int .i64 0, .slice none 0 0, .slice none 0 0, .slice none 0 0] 57
    replace ST := hide ST
    have EN := hide (fun wr => rl_end (E := elFn) (p := pFn) (ok := oFn) (w0 := w0) (wr := wr) hun hr hT)
    have HR := hide hr
    have HT := hide hT
    clear hr h0 h1 hT hm0 hmz hRC hu hgt
    go_wp2_with fail
    go_loopw [28] (fun i wr => ∃ k : Nat, k ≤ u ∧ i = .int .i64 k ∧ Hid (RlInv elFn pFn oFn w0 w1 rb u s1 k wr)) (fun i _ => u - (intOf i).toNat)
    case atStart => exact ⟨0, Nat.zero_le _, rfl, ST⟩
    case round =>
      obtain ⟨k, hk, rfl, HI⟩ := hrel
      clear ST hc0
      by_cases hlk : k < u
      · have C := hide (rl_each_func hrb hrb1 (unhide hG1) (unhide HI) hlk)
        clear HI
        go_wp2_with fail
        refine (unhide C).mono ?_
        rintro e w2 ⟨v, a, cs, s', rfl, hV, hcs, hcl, hbad, hno, hyes⟩
        clear C
        obtain ⟨ko, kc, io, ic, mo, mc, rfl, _⟩ := hcs
        have hV : v = .agg #[.int .i64 a.p, .int .i64 a.c, .int .i64 a.s, .int .i64 a.r, .slice ko a.ks.length kc, .slice io a.is.length ic, .slice mo a.ms.length mc] := hV
        subst hV
        obtain ⟨⟨x0, hx0⟩, hf0⟩ : (∃ x, w2.cell? ⟨w1.heap.size, k * 7, none⟩ = some x) ∧ w2.frozen? ⟨w1.heap.size, k * 7, none⟩ = false := by
          have q := hcl 0 (by decide)
          change (w2.cell? ⟨w1.heap.size, k * 7, none⟩).isSome = true ∧ w2.frozen? ⟨w1.heap.size, k * 7, none⟩ = false at q
          exact ⟨Option.isSome_iff_exists.1 q.1, q.2⟩
        obtain ⟨⟨x1, hx1⟩, hf1⟩ : (∃ x, w2.cell? ⟨w1.heap.size, k * 7 + 1, none⟩ = some x) ∧ w2.frozen? ⟨w1.heap.size, k * 7 + 1, none⟩ = false := by
          have q := hcl 1 (by decide)
          change (w2.cell? ⟨w1.heap.size, k * 7 + 1, none⟩).isSome = true ∧ w2.frozen? ⟨w1.heap.size, k * 7 + 1, none⟩ = false at q
          exact ⟨Option.isSome_iff_exists.1 q.1, q.2⟩
        obtain ⟨⟨x2, hx2⟩, hf2⟩ : (∃ x, w2.cell? ⟨w1.heap.size, k * 7 + 2, none⟩ = some x) ∧ w2.frozen? ⟨w1.heap.size, k * 7 + 2, none⟩ = false := by
          have q := hcl 2 (by decide)
          change (w2.cell? ⟨w1.heap.size, k * 7 + 2, none⟩).isSome = true ∧ w2.frozen? ⟨w1.heap.size, k * 7 + 2, none⟩ = false at q
          exact ⟨Option.isSome_iff_exists.1 q.1, q.2⟩
        obtain ⟨⟨x3, hx3⟩, hf3⟩ : (∃ x, w2.cell? ⟨w1.heap.size, k * 7 + 3, none⟩ = some x) ∧ w2.frozen? ⟨w1.heap.size, k * 7 + 3, none⟩ = false := by
          have q := hcl 3 (by decide)
          change (w2.cell? ⟨w1.heap.size, k * 7 + 3, none⟩).isSome = true ∧ w2.frozen? ⟨w1.heap.size, k * 7 + 3, none⟩ = false at q
          exact ⟨Option.isSome_iff_exists.1 q.1, q.2⟩
        obtain ⟨⟨x4, hx4⟩, hf4⟩ : (∃ x, w2.cell? ⟨w1.heap.size, k * 7 + 4, none⟩ = some x) ∧ w2.frozen? ⟨w1.heap.size, k * 7 + 4, none⟩ = false := by
          have q := hcl 4 (by decide)
          change (w2.cell? ⟨w1.heap.size, k * 7 + 4, none⟩).isSome = true ∧ w2.frozen? ⟨w1.heap.size, k * 7 + 4, none⟩ = false at q
          exact ⟨Option.isSome_iff_exists.1 q.1, q.2⟩
        obtain ⟨⟨x5, hx5⟩, hf5⟩ : (∃ x, w2.cell? ⟨w1.heap.size, k * 7 + 5, none⟩ = some x) ∧ w2.frozen? ⟨w1.heap.size, k * 7 + 5, none⟩ = false := by
          have q := hcl 5 (by decide)
          change (w2.cell? ⟨w1.heap.size, k * 7 + 5, none⟩).isSome = true ∧ w2.frozen? ⟨w1.heap.size, k * 7 + 5, none⟩ = false at q
          exact ⟨Option.isSome_iff_exists.1 q.1, q.2⟩
        obtain ⟨⟨x6, hx6⟩, hf6⟩ : (∃ x, w2.cell? ⟨w1.heap.size, k * 7 + 6, none⟩ = some x) ∧ w2.frozen? ⟨w1.heap.size, k * 7 + 6, none⟩ = false := by
          have q := hcl 6 (by decide)
          change (w2.cell? ⟨w1.heap.size, k * 7 + 6, none⟩).isSome = true ∧ w2.frozen? ⟨w1.heap.size, k * 7 + 6, none⟩ = false at q
          exact ⟨Option.isSome_iff_exists.1 q.1, q.2⟩
        have hlb : ¬ rb = w1.heap.size := by omega
        have eWF : setN w2 w1.heap.size (k * elFn.sz) [.int .i64 a.p, .int .i64 a.c, .int .i64 a.s, .int .i64 a.r, .slice ko a.ks.length kc, .slice io a.is.length ic, .slice mo a.ms.length mc] = (((((((w2.setCell ⟨w1.heap.size, k * 7, none⟩ (.int .i64 a.p)).setCell ⟨w1.heap.size, k * 7 + 1, none⟩ (.int .i64 a.c)).setCell ⟨w1.heap.size, k * 7 + 2, none⟩ (.int .i64 a.s)).setCell ⟨w1.heap.size, k * 7 + 3, none⟩ (.int .i64 a.r)).setCell ⟨w1.heap.size, k * 7 + 4, none⟩ (.slice ko a.ks.length kc)).setCell ⟨w1.heap.size, k * 7 + 5, none⟩ (.slice io a.is.length ic)).setCell ⟨w1.heap.size, k * 7 + 6, none⟩ (.slice mo a.ms.length mc)) := by
          rfl
        rw [eWF] at hno hyes
        clear hcl eWF
        cases s' with
        | none =>
          obtain ⟨q1, q2⟩ := hno rfl
          obtain ⟨lx, q2⟩ := q2
          have K := hide (show Res (pL pFn) s ([] : List Fn) none ∧ RdTo w0 w _ rb none from ⟨Res.dead (unhide HR) q2 hlk, q1.from (unhide HT)⟩)
          have hbad : w2.cell? ⟨rb, 1, none⟩ = some (.bool true) := hbad
          clear hno hyes q1 q2 HR HT EN
          go_wp2_with fail
          go_ret
          exact ⟨none, 0, 0, [], none, rfl, RowIn.nil _ _ _, (fun a ha => by cases ha), (unhide K).1, (unhide K).2⟩
        | some r =>
          have K := hide (hyes r rfl)
          have hbad : w2.cell? ⟨rb, 1, none⟩ = some (.bool false) := hbad
          clear hno hyes HR HT EN
          go_wp2_with fail
          go_roundw
          case rel => exact ⟨k + 1, by omega, by go_num, K⟩
          case measure => simp [intOf]; omega
      · obtain rfl : k = u := by omega
        obtain ⟨l, s', e1, e2, e3, e4⟩ := unhide EN wr (unhide HI)
        have K := hide (show RowIn w.heap.size elFn wr (some ⟨w1.heap.size, 0, none⟩) k k l ∧ (∀ a ∈ l, oFn a) ∧ Res (pL pFn) s l s' ∧ RdTo w0 w wr rb s' from ⟨e1, e2, e3, e4⟩)
        clear HI EN e1 e2 e3 e4 HR HT
        go_wp2_with fail
        go_ret
        exact ⟨_, _, _, l, s', rfl, unhide K⟩
end Go.Proofs.YtdekhnfncecacaaDoor
