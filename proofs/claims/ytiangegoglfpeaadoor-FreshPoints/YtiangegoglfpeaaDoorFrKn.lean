/- Package fresh: bits, and what is known of slots. -/
import Derived.Test.YtiangegoglfpeaaDoorFrMem
import Derived.Test.YtiangegoglfpeaaDoorLiveLeaf
import Derived.Lib.TrailingZeros
namespace Go.Proofs.YtiangegoglfpeaaDoor
set_option maxRecDepth 100000
open Go.RowKit Go.Maps Go.ChangeShapes Go.WideShapes Go.ChangeAt Go.Deep

theorem bit_any (w : World) (n : Int) (h : oI n) : Calls Tryd.prog 19 #[.int .i64 n] w fun e w' => e = .returned (.int .u64 (bitP n : Int)) ∧ w' = w := by
  have hs := shl_bit n h
  go_enter Tryd.func19, Tryd.ntmps19
  go_wp2_with fail
  go_ret
  exact ⟨rfl, rfl⟩

theorem neg_and (x : Nat) (h0 : x ≠ 0) (hx : x < 18446744073709551616) : bits .and .u64 (x : Int) (IntKind.u64.wrap (-(x : Int))) = ((2 ^ Lib.ctz 64 x : Nat) : Int) := by
  have e : IntKind.u64.wrap (-(x : Int)) = ((2 ^ 64 - x : Nat) : Int) := by rw [IntKind.wrap_u64]; omega
  rw [e, u64_and_nat _ _ hx (by omega), (Lib.lowest_bit 64 x h0 hx).1]
theorem mul_idx (p : Nat) : IntKind.u64.wrap ((p : Int) * 285870213051353865) / 288230376151711744 = ((p * 285870213051353865 % 18446744073709551616 / 288230376151711744 : Nat) : Int) := by
  rw [IntKind.wrap_u64]; omega
set_option maxHeartbeats 400000 in
theorem tz_core (x p j k : Nat) (w : World) (h : ¬ (x : Int) = 0) (hand : bits .and .u64 (x : Int) (IntKind.u64.wrap (-(x : Int))) = (p : Int))
    (hidx : IntKind.u64.wrap ((p : Int) * 285870213051353865) / 288230376151711744 = (j : Int)) (hj : j < 64) (hc : w.cell? ⟨1, j, none⟩ = some (.int .u8 (k : Int))) (hk : k < 64) :
    Calls Tryd.prog 66 #[.int .u64 (x : Int)] w fun e w' => e = .returned (.int .i64 (k : Int)) ∧ w' = w := by
  have h0 : ((x : Int) == 0) = false := beq_eq_false_iff_ne.2 h
  go_enter Tryd.func66, Tryd.ntmps66
  go_wp2
  go_ret
  exact ⟨rfl, rfl⟩
theorem tz_any (x : Nat) (w : World) (h0 : x ≠ 0) (hx : x < 18446744073709551616) (ht : TabZ w) :
    Calls Tryd.prog 66 #[.int .u64 (x : Int)] w fun e w' => e = .returned (.int .i64 (Lib.ctz 64 x : Int)) ∧ w' = w := by
  have hl := Lib.lowest_bit 64 x h0 hx
  exact tz_core x (2 ^ Lib.ctz 64 x) _ _ w (by omega) (neg_and x h0 hx) (mul_idx _) (Lib.deBruijn64_at _ hl.2).1 (ht _ hl.2) hl.2

theorem low_bit (x : Nat) (h0 : x ≠ 0) (hx : x < 18446744073709551616) (i : Nat) : (x &&& (x - 1)).testBit i = (x.testBit i && !decide (i = Lib.ctz 64 x)) := by
  obtain ⟨m, hm, hc⟩ := Lib.ctzFrom_spec 64 x (by omega) hx
  obtain ⟨c, hcc⟩ : ∃ c, c = Lib.ctzFrom 64 x := ⟨_, rfl⟩
  have e : Lib.ctz 64 x = c := by
    rw [hcc]
    unfold Lib.ctz
    simp [h0]
  rw [← hcc] at hm
  rw [e]
  have hp : 0 < 2 ^ c := Nat.two_pow_pos c
  have e1 : x = 2 ^ c * (2 * m + 1) + 0 := by omega
  have e2 : x - 1 = 2 ^ c * (2 * m) + (2 ^ c - 1) := by
    rw [hm, Nat.mul_add, Nat.mul_one]
    omega
  rw [Nat.testBit_and]
  have t1 : x.testBit i = if i < c then false else (2 * m + 1).testBit (i - c) := by
    rw [e1, Nat.testBit_two_pow_mul_add _ hp]
    simp
  have t2 : (x - 1).testBit i = if i < c then true else (2 * m).testBit (i - c) := by
    rw [e2, Nat.testBit_two_pow_mul_add _ (by omega)]
    split
    · rw [Nat.testBit_two_pow_sub_one]; simp; assumption
    · rfl
  rw [t1, t2]
  by_cases h1 : i < c
  · simp [h1]
  · by_cases h2 : i = c
    · subst h2
      simp [Nat.testBit_zero]
    · obtain ⟨j, hj⟩ : ∃ j, i - c = j + 1 := ⟨i - c - 1, by omega⟩
      simp only [h1, if_false, h2, decide_false, Bool.not_false, Bool.and_true, hj, Nat.testBit_succ]
      have q1 : (2 * m + 1) / 2 = m := by omega
      have q2 : 2 * m / 2 = m := by omega
      rw [q1, q2, Bool.and_self]
theorem low_lt (x : Nat) (h0 : x ≠ 0) : x &&& (x - 1) < x := by
  have := @Nat.and_le_right x (x - 1)
  omega

theorem kt_g {w x y : World} {b : Nat} {k : Kn} {D : Nat → Prop} (h : KnAt x b k ∧ TrD w x D) (g : G x y) : KnAt y b k ∧ TrD w y D := ⟨h.1.g g, h.2.trans (TrD.of_G D g)⟩
variable {w : World} {b : Nat} {k : Kn}
set_option maxHeartbeats 400000 in
theorem hand_any (h : KnAt w b k) (s : Nat) (hs : s < 18446744073709551616) : Calls Tryd.prog 53 #[.pointer (some ⟨b, 0, none⟩), .int .u64 (s : Int)] w fun e w' => e = .returned (.tuple #[]) ∧ KnAt w' b (k.hand s) ∧ TrD w w' (· = b) := by
  have c1 := h.o
  have f1 := h.fro 1 (by decide)
  have hb : bits .andNot .u64 (k.o : Int) (s : Int) = ((anN k.o s : Nat) : Int) := u64_andNot_nat _ _ h.ok.o hs
  have K : Hid (KnAt (w.setCell ⟨b, 1, none⟩ (.int .u64 ((anN k.o s : Nat) : Int))) b (k.hand s) ∧ TrD w (w.setCell ⟨b, 1, none⟩ (.int .u64 ((anN k.o s : Nat) : Int))) (· = b)) := hide ⟨h.setO _ (anN_lt _ _ h.ok.o), (TrD.refl w _).set _ _ _ (Or.inl rfl)⟩
  clear h
  go_enter Tryd.func53, Tryd.ntmps53
  go_wp2_with fail
  go_end0
  exact ⟨rfl, unhide K⟩
theorem clr_step (s r : Nat) (ws : List Nat) (hs : s < 18446744073709551616) (hr : r < 18446744073709551616) (h0 : r ≠ 0) (hl : ws.length = 64) (hsub : ∀ i, r.testBit i = true → s.testBit i = true) :
    (clrW (anN s r) ws).set (Lib.ctz 64 r) 0 = clrW (anN s (r &&& (r - 1))) ws := by
  apply List.ext_getElem?
  intro i
  have hc := (Lib.lowest_bit 64 r h0 hr).2
  have hr' : r &&& (r - 1) < 18446744073709551616 := Nat.lt_trans (low_lt r h0) hr
  have hbit : r.testBit (Lib.ctz 64 r) = true := by
    have h1 := (Lib.lowest_bit 64 r h0 hr).1
    have h2 : (r &&& (2 ^ 64 - r)).testBit (Lib.ctz 64 r) = true := by rw [h1]; exact Nat.testBit_two_pow_self
    rw [Nat.testBit_and] at h2
    exact (Bool.and_eq_true_iff.1 h2).1
  rw [List.getElem?_set, clr_get, clr_get, clr_len, anN_bit s r hs hr, anN_bit s _ hs hr', low_bit r h0 hr]
  by_cases e : Lib.ctz 64 r = i
  · subst e
    simp [hl, hc, hsub _ hbit]
  · have e2 : ¬ i = Lib.ctz 64 r := fun h => e h.symm
    simp [e, e2]
theorem clr_zero (s : Nat) (ws : List Nat) (hs : s < 18446744073709551616) : clrW (anN s s) ws = ws := by
  apply List.ext_getElem?
  intro i
  rw [clr_get, anN_bit s s hs hs]
  cases ws[i]? <;> simp
theorem anN_zero (s : Nat) (hs : s < 18446744073709551616) : anN s 0 = s := by
  apply Nat.eq_of_testBit_eq
  intro i
  rw [anN_bit s 0 hs (by decide)]
  simp
set_option maxHeartbeats 1000000 in
theorem forget_any (h : KnAt w b k) (s : Nat) (hs : s < 18446744073709551616) (ht : TabZ w) (hb1 : b ≠ 1) : Calls Tryd.prog 54 #[.pointer (some ⟨b, 0, none⟩), .int .u64 (s : Int)] w fun e w' => e = .returned (.tuple #[]) ∧ KnAt w' b (k.forget s) ∧ TrD w w' (· = b) := by
  have c0 := h.y
  have c1 := h.o
  have f0 := h.fro 0 (by decide)
  have f1 := h.fro 1 (by decide)
  have hb2 : bits .andNot .u64 (k.y : Int) (s : Int) = ((anN k.y s : Nat) : Int) := u64_andNot_nat _ _ h.ok.y hs
  have hb3 : bits .andNot .u64 (k.o : Int) (s : Int) = ((anN k.o s : Nat) : Int) := u64_andNot_nat _ _ h.ok.o hs
  have H2 := (h.setY (anN k.y s) (anN_lt _ _ h.ok.y)).setO (anN k.o s) (anN_lt _ _ h.ok.o)
  have T2 := ((TrD.refl w (· = b)).set b 0 (.int .u64 ((anN k.y s : Nat) : Int)) (Or.inl rfl)).set b 1 (.int .u64 ((anN k.o s : Nat) : Int)) (Or.inl rfl)
  have ST : Hid (∀ w2, w2 = (w.setCell ⟨b, 0, none⟩ (.int .u64 ((anN k.y s : Nat) : Int))).setCell ⟨b, 1, none⟩ (.int .u64 ((anN k.o s : Nat) : Int)) → KnAt w2 b ⟨anN k.y s, anN k.o s, clrW (anN s s) k.ws⟩ ∧ TrD w w2 (· = b)) := hide fun w2 e => by
    subst e
    rw [clr_zero s _ hs]
    exact ⟨H2, T2⟩
  have RD : Hid (∀ (r : Nat) (wr : World), r ≠ 0 → r < 18446744073709551616 → (∀ i, r.testBit i = true → s.testBit i = true) → KnAt wr b ⟨anN k.y s, anN k.o s, clrW (anN s r) k.ws⟩ ∧ TrD w wr (· = b) → ∃ c : Nat, c < 64 ∧ (∀ q, Calls Tryd.prog 66 #[.int .u64 (r : Int)] (wr.drewN q) fun e w' => e = .returned (.int .i64 (c : Int)) ∧ w' = wr.drewN q) ∧ wr.frozen? ⟨b, 2 + c, none⟩ = false ∧ (∃ u, wr.cell? ⟨b, 2 + c, none⟩ = some u) ∧
      (∀ w2 : World, w2.os = wr.os → w2.tape = wr.tape → w2.output = wr.output → w2.heap = wr.heap → KnAt (w2.setCell ⟨b, 2 + c, none⟩ (.int .u64 0)) b ⟨anN k.y s, anN k.o s, clrW (anN s (r &&& (r - 1))) k.ws⟩ ∧ TrD w (w2.setCell ⟨b, 2 + c, none⟩ (.int .u64 0)) (· = b))) := hide fun r wr h0 hr hsub HW => by
    have hc := (Lib.lowest_bit 64 r h0 hr).2
    have htw : TabZ wr := fun i hi => HW.2.cell (ht i hi) (show ¬ 1 = b from fun e => hb1 e.symm)
    obtain ⟨z, hz⟩ : ∃ z, (clrW (anN s r) k.ws)[Lib.ctz 64 r]? = some z := ⟨_, List.getElem?_eq_getElem (by rw [clr_len, h.ok.n]; exact hc)⟩
    refine ⟨Lib.ctz 64 r, hc, fun q => tz_any r (wr.drewN q) h0 hr (htw.g (G.drewN wr q)), HW.1.fro _ (by omega), ⟨_, HW.1.w hz⟩, fun w2 e1 e2 e3 e4 => ?_⟩
    have g : G wr w2 := ⟨e1, e2, e3, by rw [e4]; exact Nat.le_refl _, fun k _ => by rw [e4]⟩
    have hk := (HW.1.g g).setW (Lib.ctz 64 r) 0 hc (by decide)
    rw [clr_step s r k.ws hs hr h0 h.ok.n hsub] at hk
    exact ⟨hk, (HW.2.trans (TrD.of_G _ g)).set b _ _ (Or.inl rfl)⟩
  have FI : Hid (∀ wr, KnAt wr b ⟨anN k.y s, anN k.o s, clrW (anN s 0) k.ws⟩ ∧ TrD w wr (· = b) → KnAt wr b (k.forget s) ∧ TrD w wr (· = b)) := hide fun wr HW => by
    rw [anN_zero s hs] at HW
    exact HW
  clear H2 T2 h ht
  go_enter Tryd.func54, Tryd.ntmps54
  go_wp2_with fail
  go_loopw [4] (fun r wr => ∃ n : Nat, r = .int .u64 (n : Int) ∧ n < 18446744073709551616 ∧ Hid ((∀ i, n.testBit i = true → s.testBit i = true) ∧ KnAt wr b ⟨anN k.y s, anN k.o s, clrW (anN s n) k.ws⟩ ∧ TrD w wr (· = b))) (fun r _ => (intOf r).toNat)
  case atStart => exact ⟨s, rfl, hs, hide ⟨fun i hi => hi, unhide ST _ rfl⟩⟩
  case round =>
    obtain ⟨n, rfl, hn, HW⟩ := hrel
    clear ST c0 c1 f0 f1 hb2 hb3
    by_cases h0 : n = 0
    · subst h0
      have K := hide (unhide FI wr (unhide HW).2)
      clear HW RD FI
      go_wp2_with fail
      go_end0
      exact ⟨rfl, unhide K⟩
    · obtain ⟨c, hc, TZ, fc, ⟨u, hu⟩, NX⟩ := unhide RD n wr h0 hn (unhide HW).1 (unhide HW).2
      have hne : ((n : Int) != 0) = true := by simp [bne]; omega
      have hcI : (c : Int) < 64 := by omega
      have hc0 : ¬ (c : Int) < 0 := by omega
      replace TZ := hide TZ
      replace NX := hide NX
      have hsub : Hid (∀ i, (n &&& (n - 1)).testBit i = true → s.testBit i = true) := hide fun i hi => (unhide HW).1 i (by rw [Nat.testBit_and] at hi; exact (Bool.and_eq_true_iff.1 hi).1)
      have hlt : Hid (n &&& (n - 1) < n) := hide (low_lt n h0)
      have hsb : IntKind.u64.wrap ((n : Int) - 1) = ((n - 1 : Nat) : Int) := by rw [wrapU]; omega
      have han : bits .and .u64 (n : Int) ((n - 1 : Nat) : Int) = ((n &&& (n - 1) : Nat) : Int) := bits_and_u64_nat n (n - 1) hn (by omega)
      clear HW RD FI
      go_wp2_with fail
      go_region_with (refine (unhide TZ _).mono ?_; rintro e w1 ⟨rfl, rfl⟩)
      all_goals
        go_wp2_with fail
        go_roundw
        case rel => exact ⟨n &&& (n - 1), rfl, Nat.lt_trans (unhide hlt) hn, hide ⟨unhide hsub, unhide NX _ rfl rfl rfl rfl⟩⟩
        case measure =>
          have := unhide hlt
          simp [intOf]
          omega
set_option maxHeartbeats 1000000 in
theorem begin_any (h : KnAt w b k) (a : Int) (yg : Bool) (ha : oI a) (ht : TabZ w) (hb1 : b ≠ 1) : Calls Tryd.prog 61 #[.pointer (some ⟨b, 0, none⟩), .int .i64 a, .bool yg] w fun e w' => e = .returned (.tuple #[]) ∧ KnAt w' b (k.begin a yg) ∧ TrD w w' (· = b) := by
  have C1 := hide (bit_any w a ha)
  have C2 := hide (forget_any h (bitP a) (bitP_lt a) ht hb1)
  have C3 : Hid (∀ (w2 : World), Calls Tryd.prog 19 #[.int .i64 a] w2 fun e w' => e = .returned (.int .u64 (bitP a : Int)) ∧ w' = w2) := hide fun w2 => bit_any w2 a ha
  have hbl := bitP_lt a
  have OR : Hid (bits .or .u64 ((k.forget (bitP a)).y : Int) (bitP a : Int) = (((k.forget (bitP a)).y ||| bitP a : Nat) : Int)) := hide (bits_or_u64_nat _ _ (h.ok.forget _).y hbl)
  generalize hB : bitP a = B at C1 C2 C3 OR hbl ⊢
  have KB : k.begin a yg = if yg then ⟨(k.forget B).y ||| B, (k.forget B).o, (k.forget B).ws⟩ else k.forget B := by unfold Kn.begin; rw [hB]
  rw [KB]
  generalize k.forget B = j at C2 OR ⊢
  clear h ht hB KB ha
  go_enter Tryd.func61, Tryd.ntmps61
  go_wp2_with fail
  refine (unhide C1).mono ?_
  rintro e w1 ⟨rfl, hw1⟩
  subst hw1
  go_wp2_with fail
  refine (unhide C2).mono ?_
  rintro e w2 ⟨rfl, hk, htr⟩
  have c0 := hk.y
  have f0 := hk.fro 0 (by decide)
  have hor := unhide OR
  have K : Hid (KnAt (w2.setCell ⟨b, 0, none⟩ (.int .u64 ((j.y ||| B : Nat) : Int))) b ⟨j.y ||| B, j.o, j.ws⟩ ∧ TrD w1 (w2.setCell ⟨b, 0, none⟩ (.int .u64 ((j.y ||| B : Nat) : Int))) (· = b)) := hide ⟨hk.setY _ (or_lt hk.ok.y hbl), htr.set b _ _ (Or.inl rfl)⟩
  replace hk := hide hk
  replace htr := hide htr
  clear C1 C2 OR
  cases yg
  · go_wp2_with fail
    go_end0
    exact ⟨rfl, unhide hk, unhide htr⟩
  · go_wp2_with fail
    go_region_with (refine (unhide C3 _).mono ?_; rintro e w3 ⟨rfl, rfl⟩)
    all_goals
      go_wp2_with fail
      go_end0
      first | exact ⟨rfl, unhide K⟩ | exact ⟨rfl, kt_g (unhide K) (G.refl _).drew⟩ | exact ⟨rfl, kt_g (unhide K) (G.refl _).drew.drew⟩
set_option maxHeartbeats 1000000 in
theorem write_any (h : KnAt w b k) (a : Int) (f : Nat) (ha : oI a) (hf : f < 18446744073709551616) : Calls Tryd.prog 64 #[.pointer (some ⟨b, 0, none⟩), .int .i64 a, .int .u64 (f : Int)] w fun e w' => e = .returned (.tuple #[]) ∧ KnAt w' b (k.write a f) ∧ TrD w w' (· = b) := by
  have C1 := hide (bit_any w a ha)
  by_cases h0 : bitP a = 0
  · have e : k.write a f = k := by unfold Kn.write; rw [if_pos h0]
    rw [e]
    have K : Hid (KnAt w b k ∧ TrD w w (· = b)) := hide ⟨h, TrD.refl _ _⟩
    rw [h0] at C1
    clear h h0 e ha
    go_enter Tryd.func64, Tryd.ntmps64
    go_wp2_with fail
    refine (unhide C1).mono ?_
    rintro e w1 ⟨rfl, hw1⟩
    subst hw1
    go_wp2_with fail
    go_end0
    exact ⟨rfl, unhide K⟩
  · have e : k.write a f = ⟨k.y, k.o, k.ws.set a.toNat (k.ws.getD a.toNat 0 ||| f)⟩ := by unfold Kn.write; rw [if_neg h0]
    rw [e]
    have hr : 0 ≤ a ∧ a < 64 := by
      unfold bitP at h0
      split at h0
      · assumption
      · exact absurd rfl h0
    obtain ⟨i, rfl⟩ : ∃ i : Nat, a = i := ⟨a.toNat, by omega⟩
    have hi : i < 64 := by omega
    rw [Int.toNat_natCast]
    have hx : k.ws[i]? = some (k.ws.getD i 0) := by rw [List.getD_eq_getElem?_getD, List.getElem?_eq_getElem (by rw [h.ok.n]; exact hi)]; rfl
    have hxl := h.ok.w _ (List.mem_of_getElem? hx)
    generalize k.ws.getD i 0 = x at hx hxl ⊢
    have c2 := h.w hx
    have f2 := h.fro (2 + i) (by omega)
    have hor := bits_or_u64_nat x f hxl hf
    have K : Hid (KnAt (w.setCell ⟨b, 2 + i, none⟩ (.int .u64 ((x ||| f : Nat) : Int))) b ⟨k.y, k.o, k.ws.set i (x ||| f)⟩ ∧ TrD w (w.setCell ⟨b, 2 + i, none⟩ (.int .u64 ((x ||| f : Nat) : Int))) (· = b)) := hide ⟨h.setW i _ hi (or_lt hxl hf), (TrD.refl w _).set b _ _ (Or.inl rfl)⟩
    have hne : ((bitP (i : Int) : Int) != 0) = true := by simp [bne]; omega
    generalize bitP (i : Int) = B at C1 hne
    have hiI : (i : Int) < 64 := by omega
    have hi0 : (0 : Int) ≤ (i : Int) := by omega
    clear h h0 e ha hr hx hxl hf
    go_enter Tryd.func64, Tryd.ntmps64
    go_wp2_with fail
    refine (unhide C1).mono ?_
    rintro e w1 ⟨rfl, hw1⟩
    subst hw1
    go_wp2_with fail
    go_region
    all_goals
      go_wp2_with fail
      go_end0
      first | exact ⟨rfl, unhide K⟩ | exact ⟨rfl, kt_g (unhide K) (G.refl _).drew⟩
def fldP (i : In) : Nat := if i.op = 31 ∨ i.op = 32 then 18446744073709551615 else bitP i.b
theorem fld_lt (i : In) : fldP i < 18446744073709551616 := by
  unfold fldP
  split
  · decide
  · exact bitP_lt _
set_option maxHeartbeats 1000000 in
theorem fields_any (w : World) (i : In) (hb : oI i.b) : Calls Tryd.prog 23 #[agI i] w fun e w' => e = .returned (.int .u64 (fldP i : Int)) ∧ G w w' := by
  obtain ⟨op, A, B, C, D⟩ := i
  have C1 : Hid (∀ w2 : World, Calls Tryd.prog 19 #[.int .i64 B] w2 fun e w' => e = .returned (.int .u64 (bitP B : Int)) ∧ w' = w2) := hide fun w2 => bit_any w2 B hb
  unfold agI fldP
  simp only
  by_cases h1 : op = 31
  · subst h1
    rw [if_pos (Or.inl rfl)]
    go_enter Tryd.func23, Tryd.ntmps23
    go_wp2_with fail
    go_ret
    exact ⟨rfl, (G.refl w).more _⟩
  · by_cases h2 : op = 32
    · subst h2
      rw [if_pos (Or.inr rfl)]
      go_enter Tryd.func23, Tryd.ntmps23
      go_wp2_with fail
      go_ret
      exact ⟨rfl, (G.refl w).more _⟩
    · rw [if_neg (by simp [h1, h2])]
      have d1 : (op == 31) = false := beq_eq_false_iff_ne.2 h1
      have d2 : (op == 32) = false := beq_eq_false_iff_ne.2 h2
      clear h1 h2
      go_enter Tryd.func23, Tryd.ntmps23
      go_wp2_with fail
      refine (unhide C1 _).mono ?_
      rintro e w1 ⟨rfl, rfl⟩
      go_wp2_with fail
      go_ret
      exact ⟨rfl, (G.refl w).more _⟩
def wfP (op : Int) : Bool := op == 28 || op == 29 || op == 31 || op == 32
set_option maxHeartbeats 1000000 in
theorem writesField_any (w : World) (op : Int) : Calls Tryd.prog 18 #[.int .i64 op] w fun e w' => e = .returned (.bool (wfP op)) ∧ w' = w := by
  unfold wfP
  cases h1 : (op == 28) <;> cases h2 : (op == 29) <;> cases h3 : (op == 31) <;> cases h4 : (op == 32) <;>
    (go_enter Tryd.func18, Tryd.ntmps18
     go_wp2_with fail
     go_ret
     exact ⟨rfl, rfl⟩)
set_option maxHeartbeats 1000000 in
theorem fslotMap_any (w : World) (v : Value) (l : List Int) (h : IsL w v l) (hn : l.length ≤ 1000000) (ho : ∀ s ∈ l, oI s) :
    Calls Tryd.prog 62 #[v] w fun e w' => e = .returned (.int .u64 (mskP l : Int)) ∧ w' = w := by
  obtain ⟨ao, c, rfl, hc, hget⟩ := h.get
  obtain ⟨n, hln⟩ : ∃ n, n = l.length := ⟨_, rfl⟩
  have RD : Hid (∀ (k : Nat), k < n → ∃ (b off : Nat) (a : Int), ao = some ⟨b, off, none⟩ ∧ w.cell? ⟨b, off + k, none⟩ = some (.int .i64 a) ∧ (Calls Tryd.prog 19 #[.int .i64 a] w fun e w' => e = .returned (.int .u64 (bitP a : Int)) ∧ w' = w) ∧ bits .or .u64 (mskP (l.take k) : Int) (bitP a : Int) = (mskP (l.take (k + 1)) : Int)) := hide fun k hk => by
    obtain ⟨b, off, a, e, ha, hx⟩ := hget k (by omega)
    refine ⟨b, off, a, e, hx w (G.refl w), bit_any w a (ho a (List.mem_of_getElem? ha)), ?_⟩
    rw [List.take_add_one, ha]
    show _ = ((mskP (l.take k ++ [a]) : Nat) : Int)
    rw [msk_snoc]
    exact bits_or_u64_nat _ _ (msk_lt _) (bitP_lt a)
  have FI : Hid (mskP (l.take n) = mskP l) := hide (by rw [List.take_of_length_le (by omega)])
  have hnn : n ≤ 1000000 := by omega
  rw [← hln]
  clear h hget hn hln ho
  go_enter Tryd.func62, Tryd.ntmps62
  go_wp2_with fail
  go_loopw [3, 8] (fun b i wr => ∃ k : Nat, k ≤ n ∧ i = .int .i64 k ∧ b = .int .u64 (mskP (l.take k) : Int) ∧ w = wr) (fun _ i _ => n - (intOf i).toNat)
  case atStart => exact ⟨0, Nat.zero_le _, rfl, rfl, rfl⟩
  case round =>
    obtain ⟨k, hk, rfl, rfl, rfl⟩ := hrel
    by_cases hlt : k < n
    · obtain ⟨b, off, a, rfl, hc0, CB, hm⟩ := unhide RD k hlt
      replace CB := hide CB
      go_wp2_with fail
      refine (unhide CB).mono ?_
      rintro e w1 ⟨rfl, hw1⟩
      subst hw1
      go_wp2_with fail
      refine ⟨⟨k + 1, by omega, by go_num, ?_, trivial⟩, by simp [intOf]; omega⟩
      first | rfl | rw [hm]
    · obtain rfl : k = n := by omega
      rw [unhide FI]
      clear RD FI
      go_wp2_with fail
      go_ret
      exact ⟨rfl, rfl⟩
end Go.Proofs.YtiangegoglfpeaaDoor
