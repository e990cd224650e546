/- ParseNumbers of gantlinelaw21: numbers that may be are read as their digits, greater ones fail where they stand; for every v and zeros. -/
import Derived.Test.YtablincnlfbjnabDoorPaTx
namespace Go.Proofs.YtablincnlfbjnabDoor
set_option maxRecDepth 100000
open Go.RowKit Go.Maps Go.ChangeShapes Go.WideShapes Go.ChangeAt Go.Deep

abbrev oI (k : Int) : Prop := -9223372036854775808 ≤ k ∧ k ≤ 9223372036854775807
theorem oI_wf {k : Int} (h : (Lit.int .i64 k).wf = true) : oI k := bounds_i64 h
theorem oU_wf {k : Int} (h : (Lit.int .u64 k).wf = true) : 0 ≤ k ∧ k ≤ 18446744073709551615 := bounds_u64 h
theorem ba_size (a : List UInt8) : (⟨a.toArray⟩ : ByteArray).size = a.length := by simp [ByteArray.size]
theorem add_bytes {a b c : List UInt8} (w : World) (h : a ++ b = c) (hl : a.length + b.length ≤ 100000) : (Op.stringOp .add (⟨a.toArray⟩ : ByteArray) ⟨b.toArray⟩).run Tryd.prog w = .ok (.string (⟨c.toArray⟩ : ByteArray)) w := by
  rw [run_string_add_sum w _ _ (by rw [ba_size, ba_size]; omega), ba_append, h]
/-- A node of a row. -/
theorem ra_at {w : World} {S : Nat → Prop} {ts : List Tt} {kv : Value} (h : RAt w S ts kv) {j : Nat} {t : Tt} (ht : ts[j]? = some t) : ∃ g off c kv', kv = .slice (some ⟨g, off, none⟩) ts.length c ∧ w.cell? ⟨g, off + j * 4, none⟩ = some (.string ⟨t.k.toArray⟩) ∧ w.cell? ⟨g, off + j * 4 + 1, none⟩ = some (.string ⟨t.x.toArray⟩) ∧ w.cell? ⟨g, off + j * 4 + 2, none⟩ = some (.int .i64 t.a) ∧ w.cell? ⟨g, off + j * 4 + 3, none⟩ = some kv' ∧ RAt w S t.ks kv' := by
  cases h with
  | nil ao c => simp at ht
  | row _ g off c kv hg hS hc hr => exact ⟨g, off, c, kv j, rfl, hc j t ht 0 _ rfl, hc j t ht 1 _ rfl, hc j t ht 2 _ rfl, hc j t ht 3 _ rfl, hr j t ht⟩
/-- The box of an answer. -/
theorem res_box {y w3 : World} (g : G (y.alloc (.cells zBox 27)) w3) : (∃ u0 u1 u2 u3, w3.cell? ⟨y.heap.size, 0, none⟩ = some u0 ∧ w3.cell? ⟨y.heap.size, 1, none⟩ = some u1 ∧ w3.cell? ⟨y.heap.size, 2, none⟩ = some u2 ∧ w3.cell? ⟨y.heap.size, 3, none⟩ = some u3) ∧ (w3.frozen? ⟨y.heap.size, 0, none⟩ = false ∧ w3.frozen? ⟨y.heap.size, 1, none⟩ = false ∧ w3.frozen? ⟨y.heap.size, 2, none⟩ = false ∧ w3.frozen? ⟨y.heap.size, 3, none⟩ = false) ∧
    ∀ (k x : List UInt8) (a : Int) (kv : Value), G y (put4 w3 y.heap.size k x a kv) ∧ ((put4 w3 y.heap.size k x a kv).cell? ⟨y.heap.size, 0, none⟩ = some (.string ⟨k.toArray⟩) ∧ (put4 w3 y.heap.size k x a kv).cell? ⟨y.heap.size, 1, none⟩ = some (.string ⟨x.toArray⟩) ∧ (put4 w3 y.heap.size k x a kv).cell? ⟨y.heap.size, 2, none⟩ = some (.int .i64 a) ∧ (put4 w3 y.heap.size k x a kv).cell? ⟨y.heap.size, 3, none⟩ = some kv) := by
  have b := (BoxT.zero y).g g
  obtain ⟨c0, c1, c2, c3⟩ := b.c
  have g1 := (G.alloc y (.cells zBox 27)).trans g
  refine ⟨⟨_, _, _, _, c0, c1, c2, c3⟩, b.ff, fun k x a kv => ?_⟩
  have g2 := gs_put y.heap.size k x a kv w3
  exact ⟨⟨g2.os.trans g1.os, g2.tape.trans g1.tape, g2.output.trans g1.output, Nat.le_trans g1.size g2.size, fun q hq => (g2.block q (Nat.lt_of_lt_of_le hq g1.size) (by show ¬ q = y.heap.size; omega)).trans (g1.block q hq)⟩, b.put.c⟩
theorem nmT_eq (L : List UInt8) : ([102, 117, 110, 99, 32, 109, 97, 105, 110, 40, 41, 32, 123, 32, 112, 114, 105, 110, 116, 32] ++ L) ++ [59, 32, 125] = nmT L := List.append_assoc ..
set_option maxHeartbeats 8000000 in
theorem expr_good (u z : Nat) (hu : u ≤ 4611686018427387903) (hz : z ≤ 30) (y : World) (hE : EvAt y) (hT : SpAt y) : Calls Tryd.prog 6 #[.string ⟨(nmS u z).toArray⟩] y fun e w' => G y w' ∧ ∃ (ao : Option Addr) (n c : Nat), e = .returned (.tuple #[.agg #[.string ⟨#[110, 117, 109, 98, 101, 114]⟩, .string ⟨(nmS u z).toArray⟩, .int .i64 20, .slice ao n c], .bool true]) := by
  have hl := nmS_len u z (by omega) hz
  have gz := G.alloc y (.cells zBox 27)
  have CP : Hid (Calls Tryd.prog 7 #[.string ⟨(nmT (nmS u z)).toArray⟩] (y.alloc (.cells zBox 27)) fun e w2 => G (y.alloc (.cells zBox 27)) w2 ∧ ∃ (g0 o0 c0 g1 o1 c1 g2 o2 c2 g3 o3 c3 : Nat) (ao : Option Addr) (n c : Nat), e = .returned (.tuple #[.agg #[.string ⟨#[112, 114, 111, 103, 114, 97, 109]⟩, .string ⟨#[]⟩, .int .i64 0, .slice (some ⟨g0, o0, none⟩) 1 c0], .int .i64 0, .int .i64 0]) ∧
      ∀ x, G w2 x → x.cell? ⟨g0, o0 + 3, none⟩ = some (.slice (some ⟨g1, o1, none⟩) 3 c1) ∧ x.cell? ⟨g1, o1 + 8 + 3, none⟩ = some (.slice (some ⟨g2, o2, none⟩) 1 c2) ∧ x.cell? ⟨g2, o2 + 3, none⟩ = some (.slice (some ⟨g3, o3, none⟩) 1 c3) ∧ x.cell? ⟨g3, o3, none⟩ = some (.string ⟨#[110, 117, 109, 98, 101, 114]⟩) ∧ x.cell? ⟨g3, o3 + 1, none⟩ = some (.string ⟨(nmS u z).toArray⟩) ∧ x.cell? ⟨g3, o3 + 2, none⟩ = some (.int .i64 20) ∧ x.cell? ⟨g3, o3 + 3, none⟩ = some (.slice ao n c)) := hide (by
    refine (parse_any ⟨(nmT (nmS u z)).toArray⟩ _ (by rw [ba_size]; unfold nmT; simp only [List.length_append, List.length_cons, List.length_nil]; omega) (hE.g gz) (hT.g gz)).mono ?_
    rintro e w2 ⟨g, ao, n, c, e1, ho⟩
    rw [show (⟨(nmT (nmS u z)).toArray⟩ : ByteArray).data.toList = nmT (nmS u z) by simp, nm_good u z hu] at e1 ho
    have hr := ho.row
    dsimp only at hr e1
    obtain ⟨g0, o0, c0, kv0, e0, -, -, -, a3, r0⟩ := ra_at hr (j := 0) rfl
    obtain ⟨g1, o1, c1, kv1, f1, -, -, -, b3, r1⟩ := ra_at r0 (j := 2) rfl
    obtain ⟨g2, o2, c2, kv2, f2, -, -, -, d3, r2⟩ := ra_at r1 (j := 0) rfl
    obtain ⟨g3, o3, c3, kv3, f3, h0, h1, h2, h3, r3⟩ := ra_at r2 (j := 0) rfl
    obtain ⟨ao4, c4, f4⟩ := r3.sl
    subst f1 f2 f3 f4
    rw [e0] at e1
    refine ⟨g, g0, o0, c0, g1, o1, c1, g2, o2, c2, g3, o3, c3, ao4, _, c4, e1, fun x gx => ⟨gx.cell a3, gx.cell b3, gx.cell d3, gx.cell h0, gx.cell h1, gx.cell h2, gx.cell h3⟩⟩)
  have hc1 : ∀ w, (Op.stringOp .add (⟨#[102, 117, 110, 99, 32, 109, 97, 105, 110, 40, 41, 32, 123, 32, 112, 114, 105, 110, 116, 32]⟩ : ByteArray) ⟨(nmS u z).toArray⟩).run Tryd.prog w = .ok (.string (⟨([102, 117, 110, 99, 32, 109, 97, 105, 110, 40, 41, 32, 123, 32, 112, 114, 105, 110, 116, 32] ++ nmS u z).toArray⟩ : ByteArray)) w := fun w => add_bytes w rfl (by simp only [List.length_cons, List.length_nil]; omega)
  have hc2 : ∀ w, (Op.stringOp .add (⟨([102, 117, 110, 99, 32, 109, 97, 105, 110, 40, 41, 32, 123, 32, 112, 114, 105, 110, 116, 32] ++ nmS u z).toArray⟩ : ByteArray) ⟨#[59, 32, 125]⟩).run Tryd.prog w = .ok (.string (⟨(nmT (nmS u z)).toArray⟩ : ByteArray)) w := fun w => add_bytes w (nmT_eq _) (by simp only [List.length_append, List.length_cons, List.length_nil]; omega)
  generalize (⟨(nmT (nmS u z)).toArray⟩ : ByteArray) = B2 at *
  generalize (⟨([102, 117, 110, 99, 32, 109, 97, 105, 110, 40, 41, 32, 123, 32, 112, 114, 105, 110, 116, 32] ++ nmS u z).toArray⟩ : ByteArray) = B1 at *
  have RB : Hid (∀ w3, G (y.alloc (.cells zBox 27)) w3 → _) := hide fun w3 g => res_box (y := y) (w3 := w3) g
  clear hE hT hl gz hu hz
  go_enter Tryd.func6, Tryd.ntmps6
  go_wp2_with fail
  refine (unhide CP).mono ?_
  rintro e w2 ⟨g, g0, o0, c0, g1, o1, c1, g2, o2, c2, g3, o3, c3, ao, n, c, rfl, hx⟩
  have ga := G.alloc w2 (.cells #[.string ⟨#[112, 114, 111, 103, 114, 97, 109]⟩, .string ⟨#[]⟩, .int .i64 0, .slice (some ⟨g0, o0, none⟩) 1 c0] 27)
  obtain ⟨x0, x1, x2, x3, x4, x5, x6⟩ := hx _ ga
  obtain ⟨⟨u0, u1, u2, u3, q0, q1, q2, q3⟩, ⟨z0, z1, z2, z3⟩, K⟩ := unhide RB _ (g.trans ga)
  replace K := hide (K [110, 117, 109, 98, 101, 114] (nmS u z) 20 (.slice ao n c))
  clear CP RB g hx ga
  go_wp2_with fail
  obtain ⟨K1, d0, d1, d2, d3⟩ := unhide K
  refine bodyPost_ret (by simp [results, Tryd.results6, go_sem, d0, d1, d2, d3]; try rfl) rfl ?_
  exact ⟨K1, ao, n, c, rfl⟩
theorem num_bad (u z : Nat) (hu : ¬ u ≤ 4611686018427387903) (hu2 : (u : Int) ≤ 9223372036854775807) (hz : z ≤ 30) (w1 : World) (hE : EvAt w1) (hT : SpAt w1) : Calls Tryd.prog 7 #[.string ⟨(nmT (nmS u z)).toArray⟩] w1 (fun e w2 => G w1 w2 ∧ ∃ (k x : List UInt8) (at0 : Int) (ao : Option Addr) (n c : Nat), e = .returned (.tuple #[.agg #[.string ⟨k.toArray⟩, .string ⟨x.toArray⟩, .int .i64 at0, .slice ao n c], .int .i64 20, .int .i64 6])) := by
  have hl := nmS_len u z hu2 hz
  exact parse_at (by rw [ba_size]; unfold nmT; simp only [List.length_append, List.length_cons, List.length_nil]; omega) hE hT (by simp) (nm_bad u z hu)
set_option maxHeartbeats 8000000 in
theorem expr_bad (u z : Nat) (hu : ¬ u ≤ 4611686018427387903) (hu2 : (u : Int) ≤ 9223372036854775807) (hz : z ≤ 30) (y : World) (hE : EvAt y) (hT : SpAt y) : Calls Tryd.prog 6 #[.string ⟨(nmS u z).toArray⟩] y fun e w' => G y w' ∧ e = .returned (.tuple #[.agg #[.string ⟨#[]⟩, .string ⟨#[]⟩, .int .i64 0, .slice none 0 0], .bool false]) := by
  have hl := nmS_len u z hu2 hz
  have gz := G.alloc y (.cells zBox 27)
  have CP := hide (num_bad u z hu hu2 hz _ (hE.g gz) (hT.g gz))
  have bn0 := build_n0
  have hc1 : ∀ w, (Op.stringOp .add (⟨#[102, 117, 110, 99, 32, 109, 97, 105, 110, 40, 41, 32, 123, 32, 112, 114, 105, 110, 116, 32]⟩ : ByteArray) ⟨(nmS u z).toArray⟩).run Tryd.prog w = .ok (.string (⟨([102, 117, 110, 99, 32, 109, 97, 105, 110, 40, 41, 32, 123, 32, 112, 114, 105, 110, 116, 32] ++ nmS u z).toArray⟩ : ByteArray)) w := fun w => add_bytes w rfl (by simp only [List.length_cons, List.length_nil]; omega)
  have hc2 : ∀ w, (Op.stringOp .add (⟨([102, 117, 110, 99, 32, 109, 97, 105, 110, 40, 41, 32, 123, 32, 112, 114, 105, 110, 116, 32] ++ nmS u z).toArray⟩ : ByteArray) ⟨#[59, 32, 125]⟩).run Tryd.prog w = .ok (.string (⟨(nmT (nmS u z)).toArray⟩ : ByteArray)) w := fun w => add_bytes w (nmT_eq _) (by simp only [List.length_append, List.length_cons, List.length_nil]; omega)
  generalize (⟨(nmT (nmS u z)).toArray⟩ : ByteArray) = B2 at *
  generalize (⟨([102, 117, 110, 99, 32, 109, 97, 105, 110, 40, 41, 32, 123, 32, 112, 114, 105, 110, 116, 32] ++ nmS u z).toArray⟩ : ByteArray) = B1 at *
  have RB : Hid (∀ w3, G (y.alloc (.cells zBox 27)) w3 → _) := hide fun w3 g => res_box (y := y) (w3 := w3) g
  clear hE hT hl gz hu hz hu2
  go_enter Tryd.func6, Tryd.ntmps6
  go_wp2_with fail
  refine (unhide CP).mono ?_
  rintro e w2 ⟨g, k, x, at0, ao, n, c, rfl⟩
  have ga := G.alloc w2 (.cells #[.string ⟨k.toArray⟩, .string ⟨x.toArray⟩, .int .i64 at0, .slice ao n c] 27)
  obtain ⟨⟨u0, u1, u2, u3, q0, q1, q2, q3⟩, ⟨z0, z1, z2, z3⟩, K⟩ := unhide RB _ (g.trans ga)
  replace K := hide (K [] [] 0 (.slice none 0 0))
  clear CP RB g ga
  go_wp2_with fail
  obtain ⟨K1, d0, d1, d2, d3⟩ := unhide K
  refine bodyPost_ret (by simp [results, Tryd.results6, go_sem, d0, d1, d2, d3]; try rfl) rfl ?_
  exact ⟨K1, rfl⟩
set_option maxRecDepth 100000 in
set_option maxHeartbeats 8000000 in
theorem nums_in (u z : Nat) (hu : (u : Int) ≤ 9223372036854775807) (hz : z ≤ 30) (W : World) (hE : EvAt W) (hT : SpAt W) : Calls Tryd.prog 3 #[.int .u64 (u : Int), .int .i64 (z : Int)] W fun e w' => e = .returned (.bool true) ∧ G W w' := by
  have AW := hide (awake_any W hE hT)
  have TX := hide (text_nat u u (Nat.le_refl _) hu)
  have CG : Hid (u ≤ 4611686018427387903 → ∀ w1, G W w1 → _) := hide fun h w1 g => expr_good u z h hz w1 (hE.g g) (hT.g g)
  have CB : Hid (¬ u ≤ 4611686018427387903 → ∀ w1, G W w1 → _) := hide fun h w1 g => expr_bad u z h hu hz w1 (hE.g g) (hT.g g)
  have CP : Hid (¬ u ≤ 4611686018427387903 → ∀ w1, G W w1 → _) := hide fun h w1 g => num_bad u z h hu hz w1 (hE.g g) (hT.g g)
  have hl := nmS_len u z hu hz
  have LN : Hid (∀ k, k ≤ 30 → (nmS u k).length ≤ 51) := hide fun k hk => nmS_len u k hu hk
  have t1 : ¬ (z : Int) < 0 := by omega
  have t2 : ¬ (30 : Int) < (z : Int) := by omega
  have t3 : ¬ (9223372036854775807 : Int) < (u : Int) := by omega
  have hw1 : IntKind.i64.wrap (u : Int) = (u : Int) := by rw [IntKind.wrap_i64]; omega
  have hw2 : wrap64 (u : Int) = (u : Int) := by unfold wrap64; omega
  clear hE hT
  go_enter Tryd.func3, Tryd.ntmps3
  go_wp2_with fail
  refine (unhide AW).mono ?_
  rintro e w0 ⟨rfl, g0⟩
  replace g0 := hide g0
  clear AW
  go_wp2_with fail
  refine (unhide TX w0).mono ?_
  rintro e w1 ⟨rfl, kd, e1⟩
  have hG : Hid (G W w1) := hide (by rw [e1]; exact (unhide g0).trans (g_drewN w0 kd))
  clear TX g0 e1
  go_wp2_with fail
  go_loopw [5, 6] (fun t i wr => wr = w1 ∧ ∃ k : Nat, k ≤ z ∧ t = .string ⟨(nmS u k).toArray⟩ ∧ i = .int .i64 (k : Int)) (fun _ i _ => z - (intOf i).toNat)
  case atStart => exact ⟨rfl, 0, by omega, rfl, rfl⟩
  case round =>
    obtain ⟨hwz, k, hk, rfl, rfl⟩ := hrel
    obtain rfl : w1 = wr := hwz.symm
    clear hwz
    by_cases hlt : k < z
    · have hltz : (k : Int) < (z : Int) := by omega
      have hkz : (k : Int) ≤ 80 := by omega
      have ha1 : ∀ w, (Op.stringOp .add (⟨#[48]⟩ : ByteArray) ⟨(nmS u k).toArray⟩).run Tryd.prog w = .ok (.string (⟨(nmS u (k + 1)).toArray⟩ : ByteArray)) w := fun w => add_bytes w (nmS_succ u k) (by have := unhide LN k (by omega); simp only [List.length_cons, List.length_nil]; omega)
      clear CG CB CP LN hG
      go_wp2_with fail
      go_roundw
      case rel => exact ⟨trivial, k + 1, by omega, rfl, by first | rfl | go_num⟩
      case measure => exact dec_1 hlt
    obtain rfl : z = k := by omega
    have hltz : ¬ (z : Int) < (z : Int) := by omega
    clear hlt hk LN
    by_cases hb : u ≤ 4611686018427387903
    · have hb1 : ¬ (4611686018427387904 : Int) ≤ (u : Int) := by omega
      have hb2 : decide ((4611686018427387904 : Int) ≤ (u : Int)) = false := decide_eq_false hb1
      have C := hide (unhide CG hb w1 (unhide hG))
      clear CG CB CP hb
      go_wp2_with fail
      refine (unhide C).mono ?_
      rintro e w2 ⟨g2, ao, n, c, rfl⟩
      have g3 := hide ((unhide hG).trans (g2.more (.cells #[.string ⟨#[110, 117, 109, 98, 101, 114]⟩, .string ⟨(nmS u z).toArray⟩, .int .i64 20, .slice ao n c] 27)))
      clear C g2 hG hl t1 t2 t3 hw1 hw2 hltz
      generalize (⟨(nmS u z).toArray⟩ : ByteArray) = B0 at *
      go_wp2_with fail
      go_ret
      exact ⟨rfl, unhide g3⟩
    · have hb1 : (4611686018427387904 : Int) ≤ (u : Int) := by omega
      have C := hide (unhide CB hb w1 (unhide hG))
      replace CP := hide (unhide CP hb)
      have hc1 : ∀ w, (Op.stringOp .add (⟨#[102, 117, 110, 99, 32, 109, 97, 105, 110, 40, 41, 32, 123, 32, 112, 114, 105, 110, 116, 32]⟩ : ByteArray) ⟨(nmS u z).toArray⟩).run Tryd.prog w = .ok (.string (⟨([102, 117, 110, 99, 32, 109, 97, 105, 110, 40, 41, 32, 123, 32, 112, 114, 105, 110, 116, 32] ++ nmS u z).toArray⟩ : ByteArray)) w := fun w => add_bytes w rfl (by simp only [List.length_cons, List.length_nil]; omega)
      have hc2 : ∀ w, (Op.stringOp .add (⟨([102, 117, 110, 99, 32, 109, 97, 105, 110, 40, 41, 32, 123, 32, 112, 114, 105, 110, 116, 32] ++ nmS u z).toArray⟩ : ByteArray) ⟨#[59, 32, 125]⟩).run Tryd.prog w = .ok (.string (⟨(nmT (nmS u z)).toArray⟩ : ByteArray)) w := fun w => add_bytes w (nmT_eq _) (by simp only [List.length_append, List.length_cons, List.length_nil]; omega)
      generalize (⟨(nmT (nmS u z)).toArray⟩ : ByteArray) = B2 at *
      generalize (⟨([102, 117, 110, 99, 32, 109, 97, 105, 110, 40, 41, 32, 123, 32, 112, 114, 105, 110, 116, 32] ++ nmS u z).toArray⟩ : ByteArray) = B1 at *
      clear CG CB hb hl
      go_wp2_with fail
      refine (unhide C).mono ?_
      rintro e w2 ⟨g2, rfl⟩
      have g3 := hide ((unhide hG).trans (g2.more (.cells #[.string ⟨#[]⟩, .string ⟨#[]⟩, .int .i64 0, .slice none 0 0] 27)))
      have CP1 := hide (unhide CP _ (unhide g3))
      clear C g2 hG CP
      go_wp2_with fail
      refine (unhide CP1).mono ?_
      rintro e w3 ⟨g4, k4, x4, a4, ao4, n4, c4, rfl⟩
      have g5 := hide ((unhide g3).trans (g4.more (.cells #[.string ⟨k4.toArray⟩, .string ⟨x4.toArray⟩, .int .i64 a4, .slice ao4 n4 c4] 27)))
      clear CP1 g4 g3
      go_wp2_with fail
      go_ret
      exact ⟨rfl, unhide g5⟩
set_option maxHeartbeats 4000000 in
theorem nums_out (v zs : Int) (W : World) (hE : EvAt W) (hT : SpAt W) (h : zs < 0 ∨ (¬ zs < 0 ∧ 30 < zs) ∨ (¬ zs < 0 ∧ ¬ 30 < zs ∧ 9223372036854775807 < v)) : Calls Tryd.prog 3 #[.int .u64 v, .int .i64 zs] W fun e w' => e = .returned (.bool true) ∧ G W w' := by
  have AW := hide (awake_any W hE hT)
  clear hE hT
  rcases h with h1 | ⟨h1, h2⟩ | ⟨h1, h2, h3⟩
  all_goals
    go_enter Tryd.func3, Tryd.ntmps3
    go_wp2_with fail
    refine (unhide AW).mono ?_
    rintro e w0 ⟨rfl, g0⟩
    replace g0 := hide g0
    clear AW
    go_wp2_with fail
    go_ret
    exact ⟨rfl, unhide g0⟩
theorem walk_ParseNumbers (v zs : Int) (W : World) (hL : laidMetH Tryd.prog laid9 W) (hv : 0 ≤ v ∧ v ≤ 18446744073709551615) (_ : oI zs) : Calls Tryd.prog 3 #[.int .u64 v, .int .i64 zs] W fun e w' => e = .returned (.bool true) ∧ G W w' := by
  have hE := ev_of_laid hL
  have hT := sp_of_laid hL
  by_cases h1 : zs < 0
  · exact nums_out v zs W hE hT (Or.inl h1)
  by_cases h2 : 30 < zs
  · exact nums_out v zs W hE hT (Or.inr (Or.inl ⟨h1, h2⟩))
  by_cases h3 : 9223372036854775807 < v
  · exact nums_out v zs W hE hT (Or.inr (Or.inr ⟨h1, h2, h3⟩))
  obtain ⟨u, rfl⟩ : ∃ u : Nat, v = (u : Int) := ⟨v.toNat, by omega⟩
  obtain ⟨z, rfl⟩ : ∃ z : Nat, zs = (z : Int) := ⟨zs.toNat, by omega⟩
  exact nums_in u z (by omega) (by omega) W hE hT

set_option maxRecDepth 100000 in
theorem lifted_ParseNumbers (os : Os) (started : os.Started) (H : Type) (enc : TypeId × Value → H) :
    ReturnsInHanded {} Tryd.checked os 3 .any (fun w args => (Rows.parseNumbersSpec.pre enc Tryd.prog Tryd.f3 [] false w args ∧ laidMetH Tryd.prog laid9 w) ∧ sizedMet enc Tryd.prog Tryd.f3 (OpenSpec.ofChange Rows.parseNumbersSpec) false w args)
      (Rows.parseNumbersSpec.post enc Tryd.prog Tryd.f3 false true false false) := by
  refine returnsInHanded_of_change_and (C := Tryd.checked) (X := fun w _ => laidMetH Tryd.prog laid9 w) (fun _ _ _ hh h => h.of_heap hh) own started (by kernel_rfl) Tryd.func3
    (ChangeSpec.witness_shaped (enc := enc) (C := Tryd.checked) (os := os) (X := fun w _ => laidMetH Tryd.prog laid9 w) false (World.doorLaid Tryd.prog 400 os) #[.int .u64 0, .int .i64 0] 8 rfl (World.shaped_of_RefB (by kernel_rfl) (by kernel_rfl)) (by kernel_rfl) (by kernel_rfl) (by kernel_rfl) (door_met os _)) ?_
  intro W base args ds gs before hval0 hW _ _ hL _
  have hval : ∀ (j : Nat) t v, Tryd.f3.params[j]? = some t → args[j]? = some v → Value.okWide Tryd.prog W .any base t v := hval0
  have hW' := hW
  obtain ⟨p, q, hA0, hV, rfl, hfz, hnd⟩ := hW
  have hA : DataW.TrodAll enc Tryd.prog W 0 (fun _ => true) true Tryd.f3.params.toList args.toList ds p := hA0
  rw [Tryd.params3] at hA hval
  obtain ⟨v0, vs0, d0, ds0, p0, q0, hargs, rfl, rfl, h0, r0⟩ := trodAll_cons hA
  obtain ⟨v1, vs1, d1, ds1, p1, q1, rfl, rfl, rfl, h1, r1⟩ := trodAll_cons r0
  obtain ⟨rfl, rfl, rfl⟩ := trodAll_nil r1
  obtain rfl : args = #[v0, v1] := by cases args; simp_all
  obtain ⟨rfl, rfl⟩ := trodVars_none hV
  have k0 := h0
  have lt0 : ∀ x ∈ p0, x.block < W.heap.size := by obtain ⟨m, hm⟩ := k0; exact DataW.trod_lt m _ _ _ hm
  obtain ⟨a0, rfl, rfl, rfl, w0⟩ := open_int Tryd.underlying22 (hval 0 22 v0 rfl rfl) h0
  have k1 := h1
  have lt1 : ∀ x ∈ p1, x.block < W.heap.size := by obtain ⟨m, hm⟩ := k1; exact DataW.trod_lt m _ _ _ hm
  obtain ⟨a1, rfl, rfl, rfl, w1⟩ := open_int Tryd.underlying3 (hval 1 3 v1 rfl rfl) h1
  clear hA0 hval0
  refine (walk_ParseNumbers a0 a1 W hL (oU_wf w0) (oI_wf w1)).mono fun e W' ⟨he, hg⟩ => ?_
  subst he
  exact ⟨_, rfl, _, _, _, [], _, [], hW', trodAll_mk1 (shut_bool Tryd.underlying4 _), (trodAll_cons_mk (Below.trod laidOut (by kernel_rfl) (of_decide_eq_true (by kernel_rfl)) k0 hg lt0) (trodAll_cons_mk (Below.trod laidOut (by kernel_rfl) (of_decide_eq_true (by kernel_rfl)) k1 hg lt1) trodAll_mk0)), rfl, hg.frame _, fun h => by cases h⟩

theorem row_ParseNumbers : Rows.ParseNumbersSaid :=
  OpenClaim.holds_of_wide 3 Tryd.f3 rfl rfl rfl rfl rfl rfl rfl ⟨rfl, rfl, rfl, rfl, rfl⟩ rfl rfl rfl rfl rfl (by kernel_rfl) Tryd.func3 (by kernel_rfl)
    (of_decide_eq_true (by kernel_rfl)) (by unfold Func.isWrapper; first | (rw [if_pos (by decide +kernel)]; kernel_rfl) | (rw [if_neg (by decide +kernel)]; exact ⟨rfl, rfl⟩))
    (fun os started H enc _ => lifted_ParseNumbers os started H enc)

/-- THE STATEMENT. -/
theorem card_ParseNumbers : Rows.ParseNumbersCardSaid :=
  Claim7.holds_tied_plain_at .later [] [.data, .data, .data, .sentinel, .sentinel, .listed, .data] true (true, "d4dd41a9f4e0588e3c905a8dae937dcbb43f73d6175d4b774e9bfab74f6094eb") true
    row_ParseNumbers (fun _ h => by cases h) (by kernel_rfl) (fun _ h => by cases h) parseNumbers_row_tie rfl ⟨rfl, rfl⟩ (by kernel_rfl) rfl
    (fun f fn hf hfn => by
      obtain rfl : f = 3 := Option.some.inj ((show Tryd.prog.funcNamed "gantline/gantlinelaw21.ParseNumbers" = some 3 by kernel_rfl).symm.trans hf) |>.symm
      obtain rfl : fn = Tryd.f3 := (Option.some.inj (Tryd.func3.symm.trans hfn)).symm
      exact ⟨by kernel_rfl, fun j t ht => by
        rw [Tryd.params3] at ht
        have hm : t ∈ [22, 3] := by simpa using Array.mem_of_getElem? ht
        have hall : ([22, 3].all fun u => !Tryd.prog.wantsStandIn u) = true := by kernel_rfl
        exact (show Tryd.prog.wantsStandIn t = false by simpa using List.all_eq_true.1 hall t hm)⟩)
    (by kernel_rfl)
#print axioms card_ParseNumbers
end Go.Proofs.YtablincnlfbjnabDoor
