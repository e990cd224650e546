/- BitsBytes of package gantlinelaw1: for all int64 v, uint64 u and bytes b, more the law answers true; nothing that was there is turned. -/
import Derived.Test.YtdlnfmmblcfdoaaDoorBase
import Derived.Test.YtdlnfmmblcfdoaaDoorBytesPlain
import Derived.Deep.RegionHeld3
import Derived.Deep.DrawnRows
namespace Go.Proofs.YtdlnfmmblcfdoaaDoor
open Go.ChangeShapes Go.WideShapes Go.ChangeAt Go.RowKit

theorem cells_conv {w : World} {g len cap : Nat} {zs : List Int} (hz : zs.length = len) (hc : ∀ i, i < len → w.cell? ⟨g, i, none⟩ = some (.int .u8 (zs.getD i 0))) :
    (convert 28 9 (.slice (some ⟨g, 0, none⟩) len cap)).run Tryd.prog w = .ok (.string (strOfNums zs)) w :=
  run_convert_bytes_arg w 28 5 Tryd.underlying28 Tryd.underlying5 g 0 len cap zs hz (fun i hi => by rw [Nat.zero_add]; exact hc i hi) 9 Tryd.underlying9

theorem encF_byte : ∀ f u, u < 2 * 128 ^ f → ∀ x ∈ encF f u, 0 ≤ x ∧ x ≤ 255
  | 0, u, h, x, hx => by simp [encF] at hx; simp at h; omega
  | f + 1, u, h, x, hx => by
    by_cases hu : u < 128
    · rw [encF_stop _ u hu] at hx; simp at hx; omega
    · rw [encF_more f u hu] at hx
      rcases List.mem_cons.1 hx with e | hx
      · omega
      · exact encF_byte f (u / 128) (by rw [Nat.pow_succ] at h; omega) x hx

/-- A row that is owned, as bytes that are read. -/
theorem own_row {w : World} {B n g cap : Nat} {zs : List Int} (h : w.ownsRow B 5 1 (.slice (some ⟨g, 0, none⟩) n cap) n (zs.map (Value.int .u8))) (hb : ∀ z ∈ zs, 0 ≤ z ∧ z ≤ 255) : Row w (some ⟨g, 0, none⟩) n zs := by
  obtain ⟨g', cap', e, _, hz, _, hc⟩ := own_form h (by simp)
  simp only [Value.slice.injEq, Option.some.injEq, Addr.mk.injEq] at e
  obtain ⟨⟨rfl, _⟩, _⟩ := e
  exact ⟨hz, hb, Or.inr ⟨g, 0, rfl, fun i hi => by rw [Nat.zero_add]; exact hc i hi⟩⟩

/-- The part of a row from n on. -/
theorem row_tail {w : World} {g n m : Nat} {zs ys : List Int} (h : Row w (some ⟨g, 0, none⟩) (n + m) (zs ++ ys)) (hz : zs.length = n) (hy : ys.length = m) : Row w (some ⟨g, n, none⟩) m ys := by
  refine ⟨hy, fun z hz => h.2.1 z (by simp [hz]), ?_⟩
  rcases h.2.2 with h0 | ⟨b, off, e, hc⟩
  · exact Or.inl (by omega)
  · simp only [Option.some.injEq, Addr.mk.injEq] at e
    obtain ⟨rfl, rfl, _⟩ := e
    refine Or.inr ⟨g, n, rfl, fun i hi => ?_⟩
    have := hc (n + i) (by omega)
    rw [Nat.zero_add] at this
    rw [this]
    simp [List.getD, List.getElem?_append_right, hz]

theorem keep_draw {W : World} {V : Value} {SP : ByteArray} (KS : Hid (∀ x, Below W.heap.size W x → (convert 28 9 V).run Tryd.prog x = .ok (.string SP) x)) :
    Below W.heap.size W W.drew ∧ (convert 28 9 V).run Tryd.prog W.drew = .ok (.string SP) W.drew := ⟨(Below.refl _ _).drew, unhide KS _ (Below.refl _ _).drew⟩
theorem keep_call {W x x2 : World} {V : Value} {SP : ByteArray} (KS : Hid (∀ x, Below W.heap.size W x → (convert 28 9 V).run Tryd.prog x = .ok (.string SP) x))
    (hS : Below W.heap.size W x ∧ (convert 28 9 V).run Tryd.prog x = .ok (.string SP) x) (hb : Below x.heap.size x x2) :
    Below W.heap.size W x2 ∧ (convert 28 9 V).run Tryd.prog x2 = .ok (.string SP) x2 :=
  have h := hS.1.trans (hb.mono hS.1.size)
  ⟨h, unhide KS _ h⟩

/-- gantlineref1.Put in any world behind W, and its bytes as a text. -/
theorem rp_at {W x : World} {V : Value} {SP : ByteArray} {u : Nat} {E zm : List Int} {am : Option Addr} {nm cm : Nat}
    (RP : Hid (∀ ao n c zs w, Row w ao n zs → (ao = none → c = 0) → n ≤ 1000 → Calls Tryd.prog 42 #[.slice ao n c, .int .u64 (u : Int)] w fun e w' => ∃ v, e = .returned v ∧ v ≠ .slice none 0 0 ∧ w'.ownsRow w.heap.size 5 1 v (n + E.length) ((zs ++ E).map (Value.int .u8)) ∧ Below w.heap.size w w'))
    (HM : Hid (Row W am nm zm)) (HC : Hid (am = none → cm = 0)) (hn : nm ≤ 1000) (HSP : Hid (SP = strOfNums (zm ++ E)))
    (hS : Below W.heap.size W x ∧ (convert 28 9 V).run Tryd.prog x = .ok (.string SP) x) :
    Calls Tryd.prog 42 #[.slice am nm cm, .int .u64 (u : Int)] x fun e x2 => ∃ gq cq, e = .returned (.slice (some ⟨gq, 0, none⟩) (nm + E.length) cq) ∧ (convert 28 9 (.slice (some ⟨gq, 0, none⟩) (nm + E.length) cq)).run Tryd.prog x2 = .ok (.string SP) x2 ∧ Below x.heap.size x x2 := by
  refine (unhide RP am nm cm zm x ((unhide HM).later hS.1) (unhide HC) hn).mono ?_
  rintro e x2 ⟨v, rfl, hv, hown, hb⟩
  obtain ⟨g, cap, rfl, _, hz, _, hc⟩ := own_form hown hv
  exact ⟨g, cap, rfl, by rw [unhide HSP]; exact cells_conv hz hc, hb⟩

attribute [local go_sem ↓] Go.wp_at_zero Go.wp_at_succ

set_option maxHeartbeats 4000000 in
set_option maxRecDepth 100000 in
theorem bytes_walk (v : Int) (u : Nat) (E : List Int) (zv : Nat) (y : Int) (ab am : Option Addr) (nb cb nm cm : Nat) (zb zm : List Int) (rb1 rb2 : Nat) (w : World) (ht : Tab w)
    (Z1 : Gives 38 #[.int .i64 v] (.int .u64 (zv : Int))) (Z2 : Gives 39 #[.int .i64 v] (.int .u64 (zv : Int))) (Z3 : Gives 40 #[.int .u64 (u : Int)] (.int .i64 y)) (Z4 : Gives 41 #[.int .u64 (u : Int)] (.int .i64 y))
    (Z5 : Gives 40 #[.int .u64 (zv : Int)] (.int .i64 v)) (Z6 : Gives 38 #[.int .i64 y] (.int .u64 (u : Int)))
    (EL : 1 ≤ E.length ∧ E.length ≤ 10) (EB : Hid (∀ x ∈ E, 0 ≤ x ∧ x ≤ 255)) (TP : Hid (∀ r, takeF (E ++ r) 0 0 = (u, E.length))) (TB : Hid (takeF zb 0 0 = (rb1, rb2)))
    (PT : Hid (∀ ao n c zs w, Src w ao n zs → n ≤ 1000 → Calls Tryd.prog 36 #[.slice ao n c, .int .u64 (u : Int)] w fun e w' => e = .returned (.slice (some ⟨w.heap.size, 0, none⟩) (n + E.length) (n + 10)) ∧ w'.ownsRow w.heap.size 5 1 (.slice (some ⟨w.heap.size, 0, none⟩) (n + E.length) (n + 10)) (n + E.length) ((zs ++ E).map (Value.int .u8)) ∧ Below w.heap.size w w'))
    (RP : Hid (∀ ao n c zs w, Row w ao n zs → (ao = none → c = 0) → n ≤ 1000 → Calls Tryd.prog 42 #[.slice ao n c, .int .u64 (u : Int)] w fun e w' => ∃ v, e = .returned v ∧ v ≠ .slice none 0 0 ∧ w'.ownsRow w.heap.size 5 1 v (n + E.length) ((zs ++ E).map (Value.int .u8)) ∧ Below w.heap.size w w'))
    (hb : Row w ab nb zb) (hm : Row w am nm zm) (hcb : ab = none → cb = 0) (hcm : am = none → cm = 0) (hnb : nb ≤ 100) (hnm : nm ≤ 100) :
    Calls Tryd.prog 6 #[.int .i64 v, .int .u64 (u : Int), .slice ab nb cb, .slice am nm cm] w fun e w' => e = .returned (.bool true) ∧ Below w.heap.size w w' := by
  have C := hide (awake_any w ht)
  have HB := hide hb
  have HM := hide hm
  have HCB := hide hcb
  have HCM := hide hcm
  clear ht hb hm hcb hcm
  go_enter Tryd.func6, Tryd.ntmps6
  go_wp2_with fail
  refine (unhide C).mono ?_
  rintro e w1 ⟨rfl, _, hb1⟩
  have HB1 := hide ((unhide HB).later hb1)
  have HM1 := hide ((unhide HM).later hb1)
  have HW1 := hide hb1
  clear hb1 C HB HM
  go_wp2_with (at_builtin; refine wpl_append_row rfl (.tmp 26) (.tmp 27) rfl w1.heap.size _ 0 [] rfl (own_empty w1 w1.heap.size (Nat.le_refl _)) am nm cm zm rfl (unhide HCM) ((unhide HM1).later ((Below.refl _ _).alloc (Nat.le_refl _) _)) (by omega) (by simp) ?_)
  intro v1 w2 hown hgrow hne
  have hbel : Below w1.heap.size w1 w2 := Below.grown ((Below.refl _ _).alloc (Nat.le_refl _) _) hgrow (by simp) (fun q hq => by simp [Value.ownBlock] at hq; omega)
  obtain ⟨g1, c1, hv1, _⟩ := own_form hown hne
  rw [hv1] at hown ⊢
  have HR1 := hide (own_row hown (unhide HM1).2.1)
  have HB2 := hide ((unhide HB1).later hbel)
  have HM2 := hide ((unhide HM1).later hbel)
  have HW2 : Hid (Below w.heap.size w w2) := (unhide HW1).trans (hbel.mono (unhide HW1).size)
  clear hown hgrow hne hv1 hbel HB1 HM1 HW1
  go_wp2_with fail
  refine (unhide PT _ _ _ zm _ (unhide HR1).src (by omega)).mono ?_
  rintro e w3 ⟨rfl, hown3, hbel3⟩
  have HR3 := hide (own_row hown3 (fun z hz => by rcases List.mem_append.1 hz with h | h; exact (unhide HM2).2.1 z h; exact unhide EB z h))
  have HRT := hide (row_tail (unhide HR3) (unhide HM2).1 rfl)
  have HB3 := hide ((unhide HB2).later hbel3)
  have HM3 := hide ((unhide HM2).later hbel3)
  have HW3 : Hid (Below w.heap.size w w3) := (unhide HW2).trans (hbel3.mono (unhide HW2).size)
  have hs3 : w2.heap.size ≤ w3.heap.size := hbel3.size
  clear hown3 hbel3 HB2 HM2 HW2 HR1 PT
  obtain ⟨g2, hg2⟩ : ∃ g2, g2 = w2.heap.size := ⟨_, rfl⟩
  rw [← hg2] at HR3 HRT ⊢
  clear hg2
  go_wp2_with (at_builtin; refine wpl_append_row rfl (.tmp 32) (.tmp 36) rfl w3.heap.size _ 0 [] rfl (own_empty w3 w3.heap.size (Nat.le_refl _)) (some ⟨g2, nm, none⟩) E.length 10 E rfl (fun e => by cases e) ((unhide HRT).later ((Below.refl _ _).alloc (Nat.le_refl _) _)) (by omega) (by simp) ?_)
  intro v5 w4 hown5 hgrow5 hne5
  have hbel4 : Below w3.heap.size w3 w4 := Below.grown ((Below.refl _ _).alloc (Nat.le_refl _) _) hgrow5 (by simp) (fun q hq => by simp [Value.ownBlock] at hq; omega)
  have HBL5 := hide (own_block hown5)
  have HB4 := hide ((unhide HB3).later hbel4)
  have hs4 : w3.heap.size ≤ w4.heap.size := hbel4.size
  have HBE4 := hide hbel4
  clear hgrow5 hbel4 HRT
  go_wp2_with (at_builtin; refine wpl_append_row rfl (.tmp 37) (.tmp 38) rfl w3.heap.size v5 E.length (E.map (Value.int .u8)) rfl hown5 ab nb cb zb rfl (unhide HCB) (unhide HB4) (by omega) (by omega) ?_)
  intro v6 w5 hown6 hgrow6 hne6
  have hbel5 : Below w3.heap.size w3 w5 := Below.grown (unhide HBE4) hgrow6 (by omega) (unhide HBL5)
  have hown7 : w5.ownsRow w3.heap.size 5 1 v6 (E.length + nb) ((E ++ zb).map (Value.int .u8)) := by simpa using hown6
  obtain ⟨g6, c6, hv6, _⟩ := own_form hown7 (by first | exact hne6 hne5 | exact hne6)
  rw [hv6] at hown7 ⊢
  have HR6 := hide (own_row hown7 (fun z hz => by rcases List.mem_append.1 hz with h | h; exact unhide EB z h; exact (unhide HB3).2.1 z h))
  have HB5 := hide ((unhide HB3).later hbel5)
  have HM5 := hide ((unhide HM3).later hbel5)
  have HR5 := hide ((unhide HR3).later hbel5)
  have HW5 : Hid (Below w.heap.size w w5) := (unhide HW3).trans (hbel5.mono (unhide HW3).size)
  clear hown5 hown6 hown7 hgrow6 hne5 hne6 hv6 hbel5 HB3 HM3 HW3 HR3 HB4 HBE4 HBL5
  go_wp2_with fail
  have TK := take_any (some ⟨g6, 0, none⟩) (E.length + nb) c6 (E ++ zb) w5 (unhide HR6) (by omega)
  rw [unhide TP zb] at TK
  refine TK.mono ?_
  clear TK
  rintro e w' ⟨rfl, rfl⟩
  go_wp2_with fail
  have TK := take_any ab nb cb zb w' (unhide HB5) (by omega)
  rw [unhide TB] at TK
  refine TK.mono ?_
  clear TK
  rintro e w' ⟨rfl, rfl⟩
  go_wp2_with fail
  have TK := rtake_any ab nb cb zb w' (unhide HB5) (by omega)
  rw [unhide TB] at TK
  refine TK.mono ?_
  clear TK
  rintro e w' ⟨rfl, rfl⟩
  go_wp2_with fail
  obtain ⟨SP, hSP⟩ : ∃ SP, SP = strOfNums (zm ++ E) := ⟨_, rfl⟩
  have HSP := hide hSP
  have KS : Hid (∀ x, Below w'.heap.size w' x → (convert 28 9 (.slice (some ⟨g2, 0, none⟩) (nm + E.length) (nm + 10))).run Tryd.prog x = .ok (.string SP) x) := fun x hx => by
    have hr := (unhide HR5).later hx
    rw [unhide HSP]
    refine cells_conv hr.1 (fun i hi => ?_)
    rcases hr.2.2 with h0 | ⟨b, off, e, hc⟩
    · omega
    · simp only [Option.some.injEq, Addr.mk.injEq] at e
      obtain ⟨rfl, rfl, _⟩ := e
      have := hc i hi
      rw [Nat.zero_add] at this
      exact this
  have hnm2 : nm ≤ 1000 := by omega
  clear hSP HR6 HB5 HR5 HCB TP TB EB
  have hbq0 : (SP.toList == SP.toList) = true := by simp
  have hl1 : (nm : Int) + (E.length : Int) - (nm : Int) = (E.length : Int) := by omega
  have hl2 : IntKind.i64.wrap (E.length : Int) = (E.length : Int) := by rw [IntKind.wrap_i64]; omega
  go_region_held (fun x => Below w'.heap.size w' x ∧ (convert 28 9 (.slice (some ⟨g2, 0, none⟩) (nm + E.length) (nm + 10))).run Tryd.prog x = .ok (.string SP) x)
    (first | assumption | exact keep_draw KS | exact keep_call KS (by assumption) (by assumption))
    (first
      | (go_at_call_of 38 (Value.int IntKind.i64 v); refine (Z1 _).mono ?_; rintro e x ⟨rfl, rfl⟩)
      | (go_at_call_of 38 (Value.int IntKind.i64 y); refine (Z6 _).mono ?_; rintro e x ⟨rfl, rfl⟩)
      | (go_at_call 39; refine (Z2 _).mono ?_; rintro e x ⟨rfl, rfl⟩)
      | (go_at_call_of 40 (Value.int IntKind.u64 (u : Int)); refine (Z3 _).mono ?_; rintro e x ⟨rfl, rfl⟩)
      | (go_at_call_of 40 (Value.int IntKind.u64 (zv : Int)); refine (Z5 _).mono ?_; rintro e x ⟨rfl, rfl⟩)
      | (go_at_call 41; refine (Z4 _).mono ?_; rintro e x ⟨rfl, rfl⟩)
      | (go_at_call 42; refine (rp_at (W := w') (V := .slice (some ⟨g2, 0, none⟩) (nm + E.length) (nm + 10)) (SP := SP) RP HM5 HCM hnm2 HSP ?_).mono ?_; assumption; rintro e x2 ⟨gq, cq, rfl, hconv, hbq⟩))
  have hx := keep_call KS (keep_draw KS) hbq
  have HX : Hid (Below w.heap.size w x2) := (unhide HW5).trans (hx.1.mono (unhide HW5).size)
  clear hx KS hconv
  go_wp2
  go_ret
  exact ⟨rfl, unhide HX⟩

set_option maxHeartbeats 400000 in
set_option maxRecDepth 100000 in
theorem bytes_long1 (v : Int) (u : Nat) (ab am : Option Addr) (nb cb nm cm : Nat) (w : World) (ht : Tab w) (h : (100 : Int) < (nb : Int)) :
    Calls Tryd.prog 6 #[.int .i64 v, .int .u64 (u : Int), .slice ab nb cb, .slice am nm cm] w fun e w' => e = .returned (.bool true) ∧ Below w.heap.size w w' := by
  have C := hide (awake_any w ht)
  clear ht
  go_enter Tryd.func6, Tryd.ntmps6
  go_wp2_with fail
  refine (unhide C).mono ?_
  rintro e w1 ⟨rfl, _, hb1⟩
  have HW1 := hide hb1
  clear hb1 C
  go_wp2_with fail
  go_ret
  exact ⟨rfl, unhide HW1⟩

set_option maxHeartbeats 400000 in
set_option maxRecDepth 100000 in
theorem bytes_long2 (v : Int) (u : Nat) (ab am : Option Addr) (nb cb nm cm : Nat) (w : World) (ht : Tab w) (h0 : ¬ (100 : Int) < (nb : Int)) (h : (100 : Int) < (nm : Int)) :
    Calls Tryd.prog 6 #[.int .i64 v, .int .u64 (u : Int), .slice ab nb cb, .slice am nm cm] w fun e w' => e = .returned (.bool true) ∧ Below w.heap.size w w' := by
  have C := hide (awake_any w ht)
  clear ht
  go_enter Tryd.func6, Tryd.ntmps6
  go_wp2_with fail
  refine (unhide C).mono ?_
  rintro e w1 ⟨rfl, _, hb1⟩
  have HW1 := hide hb1
  clear hb1 C
  go_wp2_with fail
  go_ret
  exact ⟨rfl, unhide HW1⟩

/-- What is told of a slice of bytes that came in. -/
def IsRow (w : World) (a : Option Addr) (len cap : Nat) (zs : List Int) : Prop := Row w a len zs ∧ (a = none → cap = 0)
theorem isRow_nil (w : World) : IsRow w none 0 0 [] := ⟨⟨rfl, (fun _ h => by cases h), Or.inl rfl⟩, fun _ => rfl⟩
theorem isRow_cells {w : World} {x : Addr} {len cap : Nat} {zs : List Int} (hl : len ≤ cap) (hz : zs.length = cap) (hcell : ∀ i, i < zs.length → w.cell? (x.add i) = some (.int .u8 (zs.getD i 0))) (hwz : ∀ n ∈ zs, (Lit.int .u8 n).wf = true) :
    IsRow w (some x) len cap (zs.take len) := by
  refine ⟨⟨by simp; omega, fun z h => bounds_u8 (hwz z (List.mem_of_mem_take h)), ?_⟩, fun e => by cases e⟩
  rcases Nat.eq_zero_or_pos len with h0 | h0
  · exact Or.inl h0
  · obtain ⟨b, off, spot⟩ := x
    have hc := hcell 0 (by omega)
    have hspot : spot = none := by simpa [Addr.add] using World.cell?_spot hc
    subst hspot
    refine Or.inr ⟨b, off, rfl, fun i hi => ?_⟩
    have hplain : (⟨b, off, none⟩ : Addr).add i = ⟨b, off + i, none⟩ := by unfold Addr.add; split <;> simp_all
    have := hcell i (by omega)
    rw [hplain] at this
    rw [this]
    simp [List.getD, hi]
theorem laidOut : laidOutB Tryd.prog = true := by kernel_rfl

theorem walk_BitsBytes (a0 a1 : Int) (a2 : Option Addr) (len2 cap2 : Nat) (z2 : List Int) (a3 : Option Addr) (len3 cap3 : Nat) (z3 : List Int) (w0 : (Lit.int .i64 a0).wf = true) (w1 : (Lit.int .u64 a1).wf = true) (w : World) (ht : Tab w)
    (h2 : IsRow w a2 len2 cap2 z2) (h3 : IsRow w a3 len3 cap3 z3) :
    Calls Tryd.prog 6 #[.int .i64 a0, .int .u64 a1, .slice a2 len2 cap2, .slice a3 len3 cap3] w fun e w' => e = .returned (.bool true) ∧ Below w.heap.size w w' := by
  have b0 := bounds_i64 w0
  have b1 := bounds_u64 w1
  obtain ⟨u, rfl⟩ := Int.eq_ofNat_of_zero_le b1.1
  have hu : u < 18446744073709551616 := by omega
  by_cases c2 : (100 : Int) < (len2 : Int)
  · exact bytes_long1 a0 u a2 a3 len2 cap2 len3 cap3 w ht c2
  by_cases c3 : (100 : Int) < (len3 : Int)
  · exact bytes_long2 a0 u a2 a3 len2 cap2 len3 cap3 w ht c2 c3
  obtain ⟨zv, y, q1, q2, q3, q4, q5, q6⟩ := zigzag a0 u b0.1 b0.2 hu
  have PT := hide (fun ao n c zs w h1 h2 => put_any ao n c u zs w h1 hu h2)
  have RP := hide (fun ao n c zs w h1 h2 h3 => rput_any ao n c u zs w h1 h2 hu h3)
  exact bytes_walk a0 u (encF 9 u) zv y a2 a3 len2 cap2 len3 cap3 z2 z3 _ _ w ht q1 q2 q3 q4 q5 q6 (encF_len 9 u) (encF_byte 9 u (by simpa using hu)) (take_put u hu) rfl PT RP h2.1 h3.1 h2.2 h3.2 (by omega) (by omega)

set_option maxRecDepth 100000 in
theorem lifted_BitsBytes (os : Os) (started : os.Started) (H : Type) (enc : TypeId × Value → H) :
    ReturnsInHanded {} Tryd.checked os 6 .any (fun w args => (Rows.bitsBytesSpec.pre enc Tryd.prog Tryd.f6 [] false w args ∧ laidMetH Tryd.prog laidTab w) ∧ sizedMet enc Tryd.prog Tryd.f6 (OpenSpec.ofChange Rows.bitsBytesSpec) false w args)
      (Rows.bitsBytesSpec.post enc Tryd.prog Tryd.f6 false true false false) := by
  refine returnsInHanded_of_change_and (C := Tryd.checked) (X := fun w _ => laidMetH Tryd.prog laidTab w) (fun _ _ _ hh h => h.of_heap hh) own started (by kernel_rfl) Tryd.func6
    (ChangeSpec.witness_shaped (enc := enc) (C := Tryd.checked) (os := os) (X := fun w _ => laidMetH Tryd.prog laidTab w) false (World.doorLaid Tryd.prog 400 os) #[.int .i64 0, .int .u64 0, .slice none 0 0, .slice none 0 0] 8 rfl (World.shaped_of_RefB (by kernel_rfl) (by kernel_rfl)) (by kernel_rfl) (by kernel_rfl) (by kernel_rfl) (door_met os _)) ?_
  intro W base args ds gs before hval0 hW _ _ hL _
  have hval : ∀ (j : Nat) t v, Tryd.f6.params[j]? = some t → args[j]? = some v → Value.okWide Tryd.prog W .any base t v := hval0
  have hW' := hW
  obtain ⟨p, q, hA0, hV, rfl, hfz, hnd⟩ := hW
  have hA : DataW.TrodAll enc Tryd.prog W 0 (fun _ => true) true Tryd.f6.params.toList args.toList ds p := hA0
  rw [Tryd.params6] at hA hval
  obtain ⟨v0, vs0, d0, ds0, p0, q0, hargs, rfl, rfl, h0, r0⟩ := trodAll_cons hA
  obtain ⟨v1, vs1, d1, ds1, p1, q1, rfl, rfl, rfl, h1, r1⟩ := trodAll_cons r0
  obtain ⟨v2, vs2, d2, ds2, p2, q2, rfl, rfl, rfl, h2, r2⟩ := trodAll_cons r1
  obtain ⟨v3, vs3, d3, ds3, p3, q3, rfl, rfl, rfl, h3, r3⟩ := trodAll_cons r2
  obtain ⟨rfl, rfl, rfl⟩ := trodAll_nil r3
  obtain rfl : args = #[v0, v1, v2, v3] := by cases args; simp_all
  obtain ⟨rfl, rfl⟩ := trodVars_none hV
  obtain ⟨a0, rfl, rfl, rfl, w0⟩ := open_int Tryd.underlying2 (hval 0 2 v0 rfl rfl) h0
  obtain ⟨a1, rfl, rfl, rfl, w1⟩ := open_int Tryd.underlying25 (hval 1 25 v1 rfl rfl) h1
  obtain ⟨a2, len2, cap2, rfl⟩ := okWide_slice Tryd.underlying28 (hval 2 28 v2 rfl rfl)
  have k2 := h2
  have lt2 : ∀ x ∈ p2, x.block < W.heap.size := by obtain ⟨m, hm⟩ := k2; exact DataW.trod_lt m _ _ _ hm
  obtain ⟨z2, w2⟩ : ∃ zs, IsRow W a2 len2 cap2 zs := by
    obtain ⟨fuel, hf⟩ := h2
    rcases open_ints Tryd.underlying28 Tryd.underlying5 (by kernel_rfl) hf with ⟨hcs, _⟩ | ⟨x, l, c, zs, hcs, _, hl, hm, hz, _, hcell, hwz⟩
    · simp [Value.cells] at hcs
      obtain ⟨rfl, rfl, rfl⟩ := hcs
      exact ⟨[], isRow_nil _⟩
    · simp [Value.cells] at hcs
      obtain ⟨rfl, rfl, rfl⟩ := hcs
      exact ⟨zs.take len2, isRow_cells hl (by simpa using hz) hcell hwz⟩
  obtain ⟨a3, len3, cap3, rfl⟩ := okWide_slice Tryd.underlying28 (hval 3 28 v3 rfl rfl)
  have k3 := h3
  have lt3 : ∀ x ∈ p3, x.block < W.heap.size := by obtain ⟨m, hm⟩ := k3; exact DataW.trod_lt m _ _ _ hm
  obtain ⟨z3, w3⟩ : ∃ zs, IsRow W a3 len3 cap3 zs := by
    obtain ⟨fuel, hf⟩ := h3
    rcases open_ints Tryd.underlying28 Tryd.underlying5 (by kernel_rfl) hf with ⟨hcs, _⟩ | ⟨x, l, c, zs, hcs, _, hl, hm, hz, _, hcell, hwz⟩
    · simp [Value.cells] at hcs
      obtain ⟨rfl, rfl, rfl⟩ := hcs
      exact ⟨[], isRow_nil _⟩
    · simp [Value.cells] at hcs
      obtain ⟨rfl, rfl, rfl⟩ := hcs
      exact ⟨zs.take len3, isRow_cells hl (by simpa using hz) hcell hwz⟩
  clear hA0 hval0
  refine (walk_BitsBytes a0 a1 a2 len2 cap2 z2 a3 len3 cap3 z3 w0 w1 W (tab_of_laid hL) w2 w3).mono fun e W' ⟨he, hg⟩ => ?_
  subst he
  exact ⟨_, rfl, _, _, _, [], _, [], hW', trodAll_mk1 (shut_bool Tryd.underlying4 _), (trodAll_cons_mk (shut_int Tryd.underlying2 w0) (trodAll_cons_mk (shut_int Tryd.underlying25 w1) (trodAll_cons_mk (Below.trod laidOut (by kernel_rfl) (of_decide_eq_true (by kernel_rfl)) k2 hg lt2) (trodAll_cons_mk (Below.trod laidOut (by kernel_rfl) (of_decide_eq_true (by kernel_rfl)) k3 hg lt3) trodAll_mk0)))), rfl, hg.frame _, fun h => by cases h⟩

theorem row_BitsBytes : Rows.BitsBytesSaid :=
  OpenClaim.holds_of_wide 6 Tryd.f6 rfl rfl rfl rfl rfl rfl rfl ⟨rfl, rfl, rfl, rfl, rfl⟩ rfl rfl rfl rfl rfl (by kernel_rfl) Tryd.func6 (by kernel_rfl)
    (of_decide_eq_true (by kernel_rfl)) (by unfold Func.isWrapper; first | (rw [if_pos (by decide +kernel)]; kernel_rfl) | (rw [if_neg (by decide +kernel)]; exact ⟨rfl, rfl⟩))
    (fun os started H enc _ => lifted_BitsBytes os started H enc)

/-- THE STATEMENT. -/
theorem card_BitsBytes : Rows.BitsBytesCardSaid :=
  Claim7.holds_tied_plain_at .later [] [.data] true (true, "90ed200b407e4f485d80c22479b6c205794185d05fc6b5f6f246b5c2b83577b9") false
    row_BitsBytes (fun _ h => by cases h) (by kernel_rfl) (fun _ h => by cases h) bitsBytes_row_tie rfl ⟨rfl, rfl⟩ (by kernel_rfl) rfl
    (fun f fn hf hfn => by
      obtain rfl : f = 6 := Option.some.inj ((show Tryd.prog.funcNamed "gantline/gantlinelaw1.BitsBytes" = some 6 by kernel_rfl).symm.trans hf) |>.symm
      obtain rfl : fn = Tryd.f6 := (Option.some.inj (Tryd.func6.symm.trans hfn)).symm
      exact ⟨by kernel_rfl, fun j t ht => by
        rw [Tryd.params6] at ht
        have hm : t ∈ [2, 25, 28, 28] := by simpa using Array.mem_of_getElem? ht
        have hall : ([2, 25, 28, 28].all fun u => !Tryd.prog.wantsStandIn u) = true := by kernel_rfl
        exact (show Tryd.prog.wantsStandIn t = false by simpa using List.all_eq_true.1 hall t hm)⟩)
    (by kernel_rfl)
#print axioms card_BitsBytes
end Go.Proofs.YtdlnfmmblcfdoaaDoor
