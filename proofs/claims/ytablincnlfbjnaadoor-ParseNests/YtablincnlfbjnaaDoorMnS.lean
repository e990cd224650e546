/- Here, one behind the other: PaNsH, PaNs0, PaNs1, PaNs2, PaNs3. -/
import Derived.Test.YtablincnlfbjnaaDoorMnD
import Derived.Test.YtablincnlfbjnaaDoorPaNxA
import Derived.Laws.Concat
/- ParseNests of gantlinelaw21: the walk (laid by py/pans.py). -/
namespace Go.Proofs.YtablincnlfbjnaaDoor
set_option maxRecDepth 100000
open Go.RowKit Go.Maps Go.ChangeShapes Go.WideShapes Go.ChangeAt Go.Deep

theorem bytes_app (a b : List UInt8) : (⟨a.toArray⟩ : ByteArray) ++ (⟨b.toArray⟩ : ByteArray) = ⟨(a ++ b).toArray⟩ := by
  apply ByteArray.ext
  rw [ByteArray.data_append]
  simp only [List.append_toArray]
theorem bytes_size (a : List UInt8) : (⟨a.toArray⟩ : ByteArray).size = a.length := by simp [ByteArray.size]
/-- '+' on texts. -/
theorem add_bytes {a b c : List UInt8} (w : World) (h : a ++ b = c) (hl : a.length + b.length ≤ 100000) : (Op.stringOp .add (⟨a.toArray⟩ : ByteArray) ⟨b.toArray⟩).run Tryd.prog w = .ok (.string (⟨c.toArray⟩ : ByteArray)) w := by
  rw [run_string_add_sum w _ _ (by rw [bytes_size, bytes_size]; omega), bytes_app, h]
/-- Parse at a text: the error. -/
theorem parse_er {L : List UInt8} {w : World} (hs : L.length ≤ 16384) (hE : EvAt w) (hT : SpAt w) {er : Int} (h : (textP L).2.2 = er) : Calls Tryd.prog 6 #[.string ⟨L.toArray⟩] w fun e w' => G w w' ∧ ∃ (k x : List UInt8) (at0 a : Int) (ao : Option Addr) (n c : Nat), e = .returned (.tuple #[.agg #[.string ⟨k.toArray⟩, .string ⟨x.toArray⟩, .int .i64 at0, .slice ao n c], .int .i64 a, .int .i64 er]) := by
  refine (parse_any ⟨L.toArray⟩ w (by rw [bytes_size]; exact hs) hE hT).mono ?_
  rintro e w' ⟨g, ao, n, c, e1, _⟩
  rw [show (⟨L.toArray⟩ : ByteArray).data.toList = L by simp] at e1
  rw [← h]
  exact ⟨g, _, _, _, _, ao, n, c, e1⟩
theorem nxE_len (o c : List UInt8) (n : Nat) (ho : o.length ≤ 2) (hc : c.length ≤ 2) (hn : n ≤ 80) : (nxE o c n).length ≤ 1000 := by
  unfold nxE
  simp only [List.length_append, rep_len, List.length_cons, List.length_nil]
  have := Nat.mul_le_mul hn ho
  have := Nat.mul_le_mul hn hc
  omega
theorem nxB_len (n : Nat) (hn : n ≤ 80) : (nxB n).length ≤ 1000 := by
  unfold nxB
  simp only [List.length_append, rep_len, List.length_cons, List.length_nil]
  omega
theorem nxL_len (n : Nat) (hn : n ≤ 80) : (nxL n).length ≤ 1000 := by
  unfold nxL
  simp only [List.length_append, rep_len, List.length_cons, List.length_nil]
  omega
theorem rep_le (k n : Nat) (s : List UInt8) (hk : k ≤ n) (hn : n ≤ 80) (hs : s.length ≤ 2) : (rep k s).length ≤ 160 := by
  rw [rep_len]
  have := Nat.mul_le_mul (Nat.le_trans hk hn) hs
  omega
end Go.Proofs.YtablincnlfbjnaaDoor

/- ParseNests of gantlinelaw21: the walk (laid by py/pans.py). -/
namespace Go.Proofs.YtablincnlfbjnaaDoor
set_option maxRecDepth 100000
open Go.RowKit Go.Maps Go.ChangeShapes Go.WideShapes Go.ChangeAt Go.Deep

set_option maxHeartbeats 8000000 in
theorem nests_0_0 (n : Nat) (how : Int) (hn1 : 1 ≤ n) (hn2 : n ≤ 80) (hb1 : ¬ bits .and .i64 how 3 = 1) (hb2 : ¬ bits .and .i64 how 3 = 2) (hb3 : ¬ bits .and .i64 how 3 = 3) (hr : n ≤ 59) (W : World) (hE : EvAt W) (hT : SpAt W) : Calls Tryd.prog 4 #[.int .i64 (n : Int), .int .i64 how] W fun e w' => e = .returned (.bool true) ∧ G W w' := by
  have AW := hide (awake_any W hE hT)
  have C1 := hide fun w1 (g : G W w1) => parse_er (L := nxE [40] [41] n) (by have := nxE_len [40] [41] n (by decide) (by decide) hn2; omega) (hE.g g) (hT.g g) (er := 0) (by rw [fin_80 (p := fun n => (textP (nxE [40] [41] n)).2.2 = if 59 < n then 2 else 0) nx_e0 n hn1 hn2]; rw [if_neg (by omega)])
  have C2 := hide fun w1 (g : G W w1) => parse_er (L := nxB n) (by have := nxB_len n hn2; omega) (hE.g g) (hT.g g) (er := 0) (by rw [fin_80 (p := fun n => (textP (nxB n)).2.2 = if 60 < n then 2 else 0) nx_b n hn1 hn2]; rw [if_neg (by omega)])
  have C3 := hide fun w1 (g : G W w1) => parse_er (L := nxL n) (by have := nxL_len n hn2; omega) (hE.g g) (hT.g g) (er := 0) (by rw [fin_80 (p := fun n => (textP (nxL n)).2.2 = if 59 < n then 2 else 0) nx_l n hn1 hn2]; rw [if_neg (by omega)])
  have n1 : ¬ (n : Int) < 1 := by omega
  have n80 : ¬ (80 : Int) < (n : Int) := by omega
  have n59 : ¬ (59 : Int) < (n : Int) := by omega
  have n60 : ¬ (60 : Int) < (n : Int) := by omega
  clear hE hT hr
  go_enter Tryd.func4, Tryd.ntmps4
  go_wp2_with fail
  refine (unhide AW).mono ?_
  rintro e wz ⟨rfl, g1⟩
  have hG := hide g1
  clear AW g1
  go_wp2_with fail
  go_loopw [8, 9, 10] (fun s0 s1 i wr => wr = wz ∧ ∃ k : Nat, k ≤ n ∧ i = .int .i64 (k : Int) ∧ s0 = .string ⟨(rep k [40]).toArray⟩ ∧ s1 = .string ⟨(rep k [41]).toArray⟩) (fun _ _ i _ => n - (intOf i).toNat)
  case atStart => exact ⟨rfl, 0, by omega, rfl, rfl, rfl⟩
  case round =>
    obtain ⟨hwz, k, hk, rfl, rfl, rfl⟩ := hrel
    obtain rfl : wz = wr := hwz.symm
    clear hwz
    by_cases hlt : k < n
    · have hltz : (k : Int) < (n : Int) := by omega
      have hkz : (k : Int) ≤ 80 := by omega
      have ha0 : ∀ w, (Op.stringOp .add (⟨(rep k [40]).toArray⟩ : ByteArray) ⟨([40] : List UInt8).toArray⟩).run Tryd.prog w = .ok (.string (⟨(rep (k + 1) [40]).toArray⟩ : ByteArray)) w := fun w => add_bytes w (rep_succ k [40]).symm (by have := rep_le k n [40] hk hn2 (by decide); show (rep k [40]).length + 1 ≤ _; omega)
      have ha1 : ∀ w, (Op.stringOp .add (⟨(rep k [41]).toArray⟩ : ByteArray) ⟨([41] : List UInt8).toArray⟩).run Tryd.prog w = .ok (.string (⟨(rep (k + 1) [41]).toArray⟩ : ByteArray)) w := fun w => add_bytes w (rep_succ k [41]).symm (by have := rep_le k n [41] hk hn2 (by decide); show (rep k [41]).length + 1 ≤ _; omega)
      obtain ⟨TY0, hTY0⟩ : ∃ TY, TY = (⟨(rep (k + 1) [40]).toArray⟩ : ByteArray) := ⟨_, rfl⟩
      rw [← hTY0] at ha0
      replace hTY0 := hide hTY0
      generalize (⟨(rep k [40]).toArray⟩ : ByteArray) = TX0 at *
      obtain ⟨TY1, hTY1⟩ : ∃ TY, TY = (⟨(rep (k + 1) [41]).toArray⟩ : ByteArray) := ⟨_, rfl⟩
      rw [← hTY1] at ha1
      replace hTY1 := hide hTY1
      generalize (⟨(rep k [41]).toArray⟩ : ByteArray) = TX1 at *
      clear C1 C2 C3 hG
      go_wp2_with fail
      go_roundw
      case rel => exact ⟨trivial, k + 1, by omega, by first | rfl | go_num, by rw [unhide hTY0], by rw [unhide hTY1]⟩
      case measure => exact dec_1 hlt
    obtain rfl : n = k := by omega
    have hltz : ¬ (n : Int) < (n : Int) := by omega
    clear hlt hk
    have hr0 := rep_le n n [40] (Nat.le_refl _) hn2 (by decide)
    have hr1 := rep_le n n [41] (Nat.le_refl _) hn2 (by decide)
    have hc0 : ∀ w, (Op.stringOp .add (⟨List.toArray [102, 117, 110, 99, 32, 109, 97, 105, 110, 40, 41, 32, 123, 32, 112, 114, 105, 110, 116, 32]⟩ : ByteArray) ⟨List.toArray (rep n [40])⟩).run Tryd.prog w = .ok (.string (⟨List.toArray ([102, 117, 110, 99, 32, 109, 97, 105, 110, 40, 41, 32, 123, 32, 112, 114, 105, 110, 116, 32] ++ (rep n [40]))⟩ : ByteArray)) w := fun w => add_bytes w rfl (by simp only [List.length_cons, List.length_nil]; omega)
    have hc1 : ∀ w, (Op.stringOp .add (⟨List.toArray ([102, 117, 110, 99, 32, 109, 97, 105, 110, 40, 41, 32, 123, 32, 112, 114, 105, 110, 116, 32] ++ (rep n [40]))⟩ : ByteArray) ⟨List.toArray [49]⟩).run Tryd.prog w = .ok (.string (⟨List.toArray (([102, 117, 110, 99, 32, 109, 97, 105, 110, 40, 41, 32, 123, 32, 112, 114, 105, 110, 116, 32] ++ (rep n [40])) ++ [49])⟩ : ByteArray)) w := fun w => add_bytes w rfl (by simp only [List.length_append, List.length_cons, List.length_nil]; omega)
    have hc2 : ∀ w, (Op.stringOp .add (⟨List.toArray (([102, 117, 110, 99, 32, 109, 97, 105, 110, 40, 41, 32, 123, 32, 112, 114, 105, 110, 116, 32] ++ (rep n [40])) ++ [49])⟩ : ByteArray) ⟨List.toArray (rep n [41])⟩).run Tryd.prog w = .ok (.string (⟨List.toArray ((([102, 117, 110, 99, 32, 109, 97, 105, 110, 40, 41, 32, 123, 32, 112, 114, 105, 110, 116, 32] ++ (rep n [40])) ++ [49]) ++ (rep n [41]))⟩ : ByteArray)) w := fun w => add_bytes w rfl (by simp only [List.length_append, List.length_cons, List.length_nil]; omega)
    have hc3 : ∀ w, (Op.stringOp .add (⟨List.toArray ((([102, 117, 110, 99, 32, 109, 97, 105, 110, 40, 41, 32, 123, 32, 112, 114, 105, 110, 116, 32] ++ (rep n [40])) ++ [49]) ++ (rep n [41]))⟩ : ByteArray) ⟨List.toArray [59, 32, 125]⟩).run Tryd.prog w = .ok (.string (⟨List.toArray (nxE [40] [41] n)⟩ : ByteArray)) w := fun w => add_bytes w rfl (by simp only [List.length_append, List.length_cons, List.length_nil]; omega)
    generalize (⟨List.toArray ([102, 117, 110, 99, 32, 109, 97, 105, 110, 40, 41, 32, 123, 32, 112, 114, 105, 110, 116, 32] ++ (rep n [40]))⟩ : ByteArray) = B_0 at *
    generalize (⟨List.toArray (([102, 117, 110, 99, 32, 109, 97, 105, 110, 40, 41, 32, 123, 32, 112, 114, 105, 110, 116, 32] ++ (rep n [40])) ++ [49])⟩ : ByteArray) = B_1 at *
    generalize (⟨List.toArray ((([102, 117, 110, 99, 32, 109, 97, 105, 110, 40, 41, 32, 123, 32, 112, 114, 105, 110, 116, 32] ++ (rep n [40])) ++ [49]) ++ (rep n [41]))⟩ : ByteArray) = B_2 at *
    generalize (⟨List.toArray (nxE [40] [41] n)⟩ : ByteArray) = B_3 at *
    generalize (⟨List.toArray (rep n [40])⟩ : ByteArray) = B_4 at *
    generalize (⟨List.toArray (rep n [41])⟩ : ByteArray) = B_5 at *
    clear hr0 hr1
    go_wp2_with fail
    refine (unhide C1 wz (unhide hG)).mono ?_
    rintro e w3 ⟨g3, k3, x3, a3, p3, ao3, n3, c3, rfl⟩
    replace hG := hide ((unhide hG).trans (g3.more (.cells #[.string ⟨k3.toArray⟩, .string ⟨x3.toArray⟩, .int .i64 a3, .slice ao3 n3 c3] 25)))
    clear C1 g3
    go_wp2_with fail
    generalize w3.alloc (.cells #[.string ⟨k3.toArray⟩, .string ⟨x3.toArray⟩, .int .i64 a3, .slice ao3 n3 c3] 25) = wz at *
    go_loopw [15, 16, 17] (fun s0 s1 i wr => wr = wz ∧ ∃ k : Nat, k ≤ n ∧ i = .int .i64 (k : Int) ∧ s0 = .string ⟨(rep k [123, 32]).toArray⟩ ∧ s1 = .string ⟨(rep k [125, 32]).toArray⟩) (fun _ _ i _ => n - (intOf i).toNat)
    case atStart => exact ⟨rfl, 0, by omega, rfl, rfl, rfl⟩
    case round =>
      obtain ⟨hwz, k, hk, rfl, rfl, rfl⟩ := hrel
      obtain rfl : wz = wr := hwz.symm
      clear hwz
      by_cases hlt : k < n
      · have hltz : (k : Int) < (n : Int) := by omega
        have hkz : (k : Int) ≤ 80 := by omega
        have ha0 : ∀ w, (Op.stringOp .add (⟨(rep k [123, 32]).toArray⟩ : ByteArray) ⟨([123, 32] : List UInt8).toArray⟩).run Tryd.prog w = .ok (.string (⟨(rep (k + 1) [123, 32]).toArray⟩ : ByteArray)) w := fun w => add_bytes w (rep_succ k [123, 32]).symm (by have := rep_le k n [123, 32] hk hn2 (by decide); show (rep k [123, 32]).length + 2 ≤ _; omega)
        have ha1 : ∀ w, (Op.stringOp .add (⟨(rep k [125, 32]).toArray⟩ : ByteArray) ⟨([125, 32] : List UInt8).toArray⟩).run Tryd.prog w = .ok (.string (⟨(rep (k + 1) [125, 32]).toArray⟩ : ByteArray)) w := fun w => add_bytes w (rep_succ k [125, 32]).symm (by have := rep_le k n [125, 32] hk hn2 (by decide); show (rep k [125, 32]).length + 2 ≤ _; omega)
        obtain ⟨TY0, hTY0⟩ : ∃ TY, TY = (⟨(rep (k + 1) [123, 32]).toArray⟩ : ByteArray) := ⟨_, rfl⟩
        rw [← hTY0] at ha0
        replace hTY0 := hide hTY0
        generalize (⟨(rep k [123, 32]).toArray⟩ : ByteArray) = TX0 at *
        obtain ⟨TY1, hTY1⟩ : ∃ TY, TY = (⟨(rep (k + 1) [125, 32]).toArray⟩ : ByteArray) := ⟨_, rfl⟩
        rw [← hTY1] at ha1
        replace hTY1 := hide hTY1
        generalize (⟨(rep k [125, 32]).toArray⟩ : ByteArray) = TX1 at *
        clear C2 C3 hG
        go_wp2_with fail
        go_roundw
        case rel => exact ⟨trivial, k + 1, by omega, by first | rfl | go_num, by rw [unhide hTY0], by rw [unhide hTY1]⟩
        case measure => exact dec_1 hlt
      obtain rfl : n = k := by omega
      have hltz : ¬ (n : Int) < (n : Int) := by omega
      clear hlt hk
      have hr0 := rep_le n n [123, 32] (Nat.le_refl _) hn2 (by decide)
      have hr1 := rep_le n n [125, 32] (Nat.le_refl _) hn2 (by decide)
      have hc0 : ∀ w, (Op.stringOp .add (⟨List.toArray [102, 117, 110, 99, 32, 109, 97, 105, 110, 40, 41, 32]⟩ : ByteArray) ⟨List.toArray (rep n [123, 32])⟩).run Tryd.prog w = .ok (.string (⟨List.toArray ([102, 117, 110, 99, 32, 109, 97, 105, 110, 40, 41, 32] ++ (rep n [123, 32]))⟩ : ByteArray)) w := fun w => add_bytes w rfl (by simp only [List.length_cons, List.length_nil]; omega)
      have hc1 : ∀ w, (Op.stringOp .add (⟨List.toArray ([102, 117, 110, 99, 32, 109, 97, 105, 110, 40, 41, 32] ++ (rep n [123, 32]))⟩ : ByteArray) ⟨List.toArray (rep n [125, 32])⟩).run Tryd.prog w = .ok (.string (⟨List.toArray (nxB n)⟩ : ByteArray)) w := fun w => add_bytes w rfl (by simp only [List.length_append, List.length_cons, List.length_nil]; omega)
      generalize (⟨List.toArray ([102, 117, 110, 99, 32, 109, 97, 105, 110, 40, 41, 32] ++ (rep n [123, 32]))⟩ : ByteArray) = B_0 at *
      generalize (⟨List.toArray (nxB n)⟩ : ByteArray) = B_1 at *
      generalize (⟨List.toArray (rep n [123, 32])⟩ : ByteArray) = B_2 at *
      generalize (⟨List.toArray (rep n [125, 32])⟩ : ByteArray) = B_3 at *
      clear hr0 hr1
      go_wp2_with fail
      refine (unhide C2 wz (unhide hG)).mono ?_
      rintro e w4 ⟨g4, k4, x4, a4, p4, ao4, n4, c4, rfl⟩
      replace hG := hide ((unhide hG).trans (g4.more (.cells #[.string ⟨k4.toArray⟩, .string ⟨x4.toArray⟩, .int .i64 a4, .slice ao4 n4 c4] 25)))
      clear C2 g4
      go_wp2_with fail
      generalize w4.alloc (.cells #[.string ⟨k4.toArray⟩, .string ⟨x4.toArray⟩, .int .i64 a4, .slice ao4 n4 c4] 25) = wz at *
      go_loopw [22, 23] (fun s0 i wr => wr = wz ∧ ∃ k : Nat, k ≤ n ∧ i = .int .i64 (k : Int) ∧ s0 = .string ⟨(rep k [91, 93]).toArray⟩) (fun _ i _ => n - (intOf i).toNat)
      case atStart => exact ⟨rfl, 0, by omega, rfl, rfl⟩
      case round =>
        obtain ⟨hwz, k, hk, rfl, rfl⟩ := hrel
        obtain rfl : wz = wr := hwz.symm
        clear hwz
        by_cases hlt : k < n
        · have hltz : (k : Int) < (n : Int) := by omega
          have hkz : (k : Int) ≤ 80 := by omega
          have ha0 : ∀ w, (Op.stringOp .add (⟨(rep k [91, 93]).toArray⟩ : ByteArray) ⟨([91, 93] : List UInt8).toArray⟩).run Tryd.prog w = .ok (.string (⟨(rep (k + 1) [91, 93]).toArray⟩ : ByteArray)) w := fun w => add_bytes w (rep_succ k [91, 93]).symm (by have := rep_le k n [91, 93] hk hn2 (by decide); show (rep k [91, 93]).length + 2 ≤ _; omega)
          obtain ⟨TY0, hTY0⟩ : ∃ TY, TY = (⟨(rep (k + 1) [91, 93]).toArray⟩ : ByteArray) := ⟨_, rfl⟩
          rw [← hTY0] at ha0
          replace hTY0 := hide hTY0
          generalize (⟨(rep k [91, 93]).toArray⟩ : ByteArray) = TX0 at *
          clear C3 hG
          go_wp2_with fail
          go_roundw
          case rel => exact ⟨trivial, k + 1, by omega, by first | rfl | go_num, by rw [unhide hTY0]⟩
          case measure => exact dec_1 hlt
        obtain rfl : n = k := by omega
        have hltz : ¬ (n : Int) < (n : Int) := by omega
        clear hlt hk
        have hr0 := rep_le n n [91, 93] (Nat.le_refl _) hn2 (by decide)
        have hc0 : ∀ w, (Op.stringOp .add (⟨List.toArray [118, 97, 114, 32, 120, 32]⟩ : ByteArray) ⟨List.toArray (rep n [91, 93])⟩).run Tryd.prog w = .ok (.string (⟨List.toArray ([118, 97, 114, 32, 120, 32] ++ (rep n [91, 93]))⟩ : ByteArray)) w := fun w => add_bytes w rfl (by simp only [List.length_cons, List.length_nil]; omega)
        have hc1 : ∀ w, (Op.stringOp .add (⟨List.toArray ([118, 97, 114, 32, 120, 32] ++ (rep n [91, 93]))⟩ : ByteArray) ⟨List.toArray [105, 110, 116, 59]⟩).run Tryd.prog w = .ok (.string (⟨List.toArray (nxL n)⟩ : ByteArray)) w := fun w => add_bytes w rfl (by simp only [List.length_append, List.length_cons, List.length_nil]; omega)
        generalize (⟨List.toArray ([118, 97, 114, 32, 120, 32] ++ (rep n [91, 93]))⟩ : ByteArray) = B_0 at *
        generalize (⟨List.toArray (nxL n)⟩ : ByteArray) = B_1 at *
        generalize (⟨List.toArray (rep n [91, 93])⟩ : ByteArray) = B_2 at *
        clear hr0
        go_wp2_with fail
        refine (unhide C3 wz (unhide hG)).mono ?_
        rintro e w5 ⟨g5, k5, x5, a5, p5, ao5, n5, c5, rfl⟩
        replace hG := hide ((unhide hG).trans (g5.more (.cells #[.string ⟨k5.toArray⟩, .string ⟨x5.toArray⟩, .int .i64 a5, .slice ao5 n5 c5] 25)))
        clear C3 g5
        go_wp2_with fail
        go_ret
        exact ⟨rfl, unhide hG⟩
set_option maxHeartbeats 8000000 in
theorem nests_0_1 (n : Nat) (how : Int) (hn1 : 1 ≤ n) (hn2 : n ≤ 80) (hb1 : ¬ bits .and .i64 how 3 = 1) (hb2 : ¬ bits .and .i64 how 3 = 2) (hb3 : ¬ bits .and .i64 how 3 = 3) (hr : n = 60) (W : World) (hE : EvAt W) (hT : SpAt W) : Calls Tryd.prog 4 #[.int .i64 (n : Int), .int .i64 how] W fun e w' => e = .returned (.bool true) ∧ G W w' := by
  have AW := hide (awake_any W hE hT)
  have C1 := hide fun w1 (g : G W w1) => parse_er (L := nxE [40] [41] n) (by have := nxE_len [40] [41] n (by decide) (by decide) hn2; omega) (hE.g g) (hT.g g) (er := 2) (by rw [fin_80 (p := fun n => (textP (nxE [40] [41] n)).2.2 = if 59 < n then 2 else 0) nx_e0 n hn1 hn2]; rw [if_pos (by omega)])
  have C2 := hide fun w1 (g : G W w1) => parse_er (L := nxB n) (by have := nxB_len n hn2; omega) (hE.g g) (hT.g g) (er := 0) (by rw [fin_80 (p := fun n => (textP (nxB n)).2.2 = if 60 < n then 2 else 0) nx_b n hn1 hn2]; rw [if_neg (by omega)])
  have C3 := hide fun w1 (g : G W w1) => parse_er (L := nxL n) (by have := nxL_len n hn2; omega) (hE.g g) (hT.g g) (er := 2) (by rw [fin_80 (p := fun n => (textP (nxL n)).2.2 = if 59 < n then 2 else 0) nx_l n hn1 hn2]; rw [if_pos (by omega)])
  have n1 : ¬ (n : Int) < 1 := by omega
  have n80 : ¬ (80 : Int) < (n : Int) := by omega
  have n59 : (59 : Int) < (n : Int) := by omega
  have n60 : ¬ (60 : Int) < (n : Int) := by omega
  clear hE hT hr
  go_enter Tryd.func4, Tryd.ntmps4
  go_wp2_with fail
  refine (unhide AW).mono ?_
  rintro e wz ⟨rfl, g1⟩
  have hG := hide g1
  clear AW g1
  go_wp2_with fail
  go_loopw [8, 9, 10] (fun s0 s1 i wr => wr = wz ∧ ∃ k : Nat, k ≤ n ∧ i = .int .i64 (k : Int) ∧ s0 = .string ⟨(rep k [40]).toArray⟩ ∧ s1 = .string ⟨(rep k [41]).toArray⟩) (fun _ _ i _ => n - (intOf i).toNat)
  case atStart => exact ⟨rfl, 0, by omega, rfl, rfl, rfl⟩
  case round =>
    obtain ⟨hwz, k, hk, rfl, rfl, rfl⟩ := hrel
    obtain rfl : wz = wr := hwz.symm
    clear hwz
    by_cases hlt : k < n
    · have hltz : (k : Int) < (n : Int) := by omega
      have hkz : (k : Int) ≤ 80 := by omega
      have ha0 : ∀ w, (Op.stringOp .add (⟨(rep k [40]).toArray⟩ : ByteArray) ⟨([40] : List UInt8).toArray⟩).run Tryd.prog w = .ok (.string (⟨(rep (k + 1) [40]).toArray⟩ : ByteArray)) w := fun w => add_bytes w (rep_succ k [40]).symm (by have := rep_le k n [40] hk hn2 (by decide); show (rep k [40]).length + 1 ≤ _; omega)
      have ha1 : ∀ w, (Op.stringOp .add (⟨(rep k [41]).toArray⟩ : ByteArray) ⟨([41] : List UInt8).toArray⟩).run Tryd.prog w = .ok (.string (⟨(rep (k + 1) [41]).toArray⟩ : ByteArray)) w := fun w => add_bytes w (rep_succ k [41]).symm (by have := rep_le k n [41] hk hn2 (by decide); show (rep k [41]).length + 1 ≤ _; omega)
      obtain ⟨TY0, hTY0⟩ : ∃ TY, TY = (⟨(rep (k + 1) [40]).toArray⟩ : ByteArray) := ⟨_, rfl⟩
      rw [← hTY0] at ha0
      replace hTY0 := hide hTY0
      generalize (⟨(rep k [40]).toArray⟩ : ByteArray) = TX0 at *
      obtain ⟨TY1, hTY1⟩ : ∃ TY, TY = (⟨(rep (k + 1) [41]).toArray⟩ : ByteArray) := ⟨_, rfl⟩
      rw [← hTY1] at ha1
      replace hTY1 := hide hTY1
      generalize (⟨(rep k [41]).toArray⟩ : ByteArray) = TX1 at *
      clear C1 C2 C3 hG
      go_wp2_with fail
      go_roundw
      case rel => exact ⟨trivial, k + 1, by omega, by first | rfl | go_num, by rw [unhide hTY0], by rw [unhide hTY1]⟩
      case measure => exact dec_1 hlt
    obtain rfl : n = k := by omega
    have hltz : ¬ (n : Int) < (n : Int) := by omega
    clear hlt hk
    have hr0 := rep_le n n [40] (Nat.le_refl _) hn2 (by decide)
    have hr1 := rep_le n n [41] (Nat.le_refl _) hn2 (by decide)
    have hc0 : ∀ w, (Op.stringOp .add (⟨List.toArray [102, 117, 110, 99, 32, 109, 97, 105, 110, 40, 41, 32, 123, 32, 112, 114, 105, 110, 116, 32]⟩ : ByteArray) ⟨List.toArray (rep n [40])⟩).run Tryd.prog w = .ok (.string (⟨List.toArray ([102, 117, 110, 99, 32, 109, 97, 105, 110, 40, 41, 32, 123, 32, 112, 114, 105, 110, 116, 32] ++ (rep n [40]))⟩ : ByteArray)) w := fun w => add_bytes w rfl (by simp only [List.length_cons, List.length_nil]; omega)
    have hc1 : ∀ w, (Op.stringOp .add (⟨List.toArray ([102, 117, 110, 99, 32, 109, 97, 105, 110, 40, 41, 32, 123, 32, 112, 114, 105, 110, 116, 32] ++ (rep n [40]))⟩ : ByteArray) ⟨List.toArray [49]⟩).run Tryd.prog w = .ok (.string (⟨List.toArray (([102, 117, 110, 99, 32, 109, 97, 105, 110, 40, 41, 32, 123, 32, 112, 114, 105, 110, 116, 32] ++ (rep n [40])) ++ [49])⟩ : ByteArray)) w := fun w => add_bytes w rfl (by simp only [List.length_append, List.length_cons, List.length_nil]; omega)
    have hc2 : ∀ w, (Op.stringOp .add (⟨List.toArray (([102, 117, 110, 99, 32, 109, 97, 105, 110, 40, 41, 32, 123, 32, 112, 114, 105, 110, 116, 32] ++ (rep n [40])) ++ [49])⟩ : ByteArray) ⟨List.toArray (rep n [41])⟩).run Tryd.prog w = .ok (.string (⟨List.toArray ((([102, 117, 110, 99, 32, 109, 97, 105, 110, 40, 41, 32, 123, 32, 112, 114, 105, 110, 116, 32] ++ (rep n [40])) ++ [49]) ++ (rep n [41]))⟩ : ByteArray)) w := fun w => add_bytes w rfl (by simp only [List.length_append, List.length_cons, List.length_nil]; omega)
    have hc3 : ∀ w, (Op.stringOp .add (⟨List.toArray ((([102, 117, 110, 99, 32, 109, 97, 105, 110, 40, 41, 32, 123, 32, 112, 114, 105, 110, 116, 32] ++ (rep n [40])) ++ [49]) ++ (rep n [41]))⟩ : ByteArray) ⟨List.toArray [59, 32, 125]⟩).run Tryd.prog w = .ok (.string (⟨List.toArray (nxE [40] [41] n)⟩ : ByteArray)) w := fun w => add_bytes w rfl (by simp only [List.length_append, List.length_cons, List.length_nil]; omega)
    generalize (⟨List.toArray ([102, 117, 110, 99, 32, 109, 97, 105, 110, 40, 41, 32, 123, 32, 112, 114, 105, 110, 116, 32] ++ (rep n [40]))⟩ : ByteArray) = B_0 at *
    generalize (⟨List.toArray (([102, 117, 110, 99, 32, 109, 97, 105, 110, 40, 41, 32, 123, 32, 112, 114, 105, 110, 116, 32] ++ (rep n [40])) ++ [49])⟩ : ByteArray) = B_1 at *
    generalize (⟨List.toArray ((([102, 117, 110, 99, 32, 109, 97, 105, 110, 40, 41, 32, 123, 32, 112, 114, 105, 110, 116, 32] ++ (rep n [40])) ++ [49]) ++ (rep n [41]))⟩ : ByteArray) = B_2 at *
    generalize (⟨List.toArray (nxE [40] [41] n)⟩ : ByteArray) = B_3 at *
    generalize (⟨List.toArray (rep n [40])⟩ : ByteArray) = B_4 at *
    generalize (⟨List.toArray (rep n [41])⟩ : ByteArray) = B_5 at *
    clear hr0 hr1
    go_wp2_with fail
    refine (unhide C1 wz (unhide hG)).mono ?_
    rintro e w3 ⟨g3, k3, x3, a3, p3, ao3, n3, c3, rfl⟩
    replace hG := hide ((unhide hG).trans (g3.more (.cells #[.string ⟨k3.toArray⟩, .string ⟨x3.toArray⟩, .int .i64 a3, .slice ao3 n3 c3] 25)))
    clear C1 g3
    go_wp2_with fail
    generalize w3.alloc (.cells #[.string ⟨k3.toArray⟩, .string ⟨x3.toArray⟩, .int .i64 a3, .slice ao3 n3 c3] 25) = wz at *
    go_loopw [15, 16, 17] (fun s0 s1 i wr => wr = wz ∧ ∃ k : Nat, k ≤ n ∧ i = .int .i64 (k : Int) ∧ s0 = .string ⟨(rep k [123, 32]).toArray⟩ ∧ s1 = .string ⟨(rep k [125, 32]).toArray⟩) (fun _ _ i _ => n - (intOf i).toNat)
    case atStart => exact ⟨rfl, 0, by omega, rfl, rfl, rfl⟩
    case round =>
      obtain ⟨hwz, k, hk, rfl, rfl, rfl⟩ := hrel
      obtain rfl : wz = wr := hwz.symm
      clear hwz
      by_cases hlt : k < n
      · have hltz : (k : Int) < (n : Int) := by omega
        have hkz : (k : Int) ≤ 80 := by omega
        have ha0 : ∀ w, (Op.stringOp .add (⟨(rep k [123, 32]).toArray⟩ : ByteArray) ⟨([123, 32] : List UInt8).toArray⟩).run Tryd.prog w = .ok (.string (⟨(rep (k + 1) [123, 32]).toArray⟩ : ByteArray)) w := fun w => add_bytes w (rep_succ k [123, 32]).symm (by have := rep_le k n [123, 32] hk hn2 (by decide); show (rep k [123, 32]).length + 2 ≤ _; omega)
        have ha1 : ∀ w, (Op.stringOp .add (⟨(rep k [125, 32]).toArray⟩ : ByteArray) ⟨([125, 32] : List UInt8).toArray⟩).run Tryd.prog w = .ok (.string (⟨(rep (k + 1) [125, 32]).toArray⟩ : ByteArray)) w := fun w => add_bytes w (rep_succ k [125, 32]).symm (by have := rep_le k n [125, 32] hk hn2 (by decide); show (rep k [125, 32]).length + 2 ≤ _; omega)
        obtain ⟨TY0, hTY0⟩ : ∃ TY, TY = (⟨(rep (k + 1) [123, 32]).toArray⟩ : ByteArray) := ⟨_, rfl⟩
        rw [← hTY0] at ha0
        replace hTY0 := hide hTY0
        generalize (⟨(rep k [123, 32]).toArray⟩ : ByteArray) = TX0 at *
        obtain ⟨TY1, hTY1⟩ : ∃ TY, TY = (⟨(rep (k + 1) [125, 32]).toArray⟩ : ByteArray) := ⟨_, rfl⟩
        rw [← hTY1] at ha1
        replace hTY1 := hide hTY1
        generalize (⟨(rep k [125, 32]).toArray⟩ : ByteArray) = TX1 at *
        clear C2 C3 hG
        go_wp2_with fail
        go_roundw
        case rel => exact ⟨trivial, k + 1, by omega, by first | rfl | go_num, by rw [unhide hTY0], by rw [unhide hTY1]⟩
        case measure => exact dec_1 hlt
      obtain rfl : n = k := by omega
      have hltz : ¬ (n : Int) < (n : Int) := by omega
      clear hlt hk
      have hr0 := rep_le n n [123, 32] (Nat.le_refl _) hn2 (by decide)
      have hr1 := rep_le n n [125, 32] (Nat.le_refl _) hn2 (by decide)
      have hc0 : ∀ w, (Op.stringOp .add (⟨List.toArray [102, 117, 110, 99, 32, 109, 97, 105, 110, 40, 41, 32]⟩ : ByteArray) ⟨List.toArray (rep n [123, 32])⟩).run Tryd.prog w = .ok (.string (⟨List.toArray ([102, 117, 110, 99, 32, 109, 97, 105, 110, 40, 41, 32] ++ (rep n [123, 32]))⟩ : ByteArray)) w := fun w => add_bytes w rfl (by simp only [List.length_cons, List.length_nil]; omega)
      have hc1 : ∀ w, (Op.stringOp .add (⟨List.toArray ([102, 117, 110, 99, 32, 109, 97, 105, 110, 40, 41, 32] ++ (rep n [123, 32]))⟩ : ByteArray) ⟨List.toArray (rep n [125, 32])⟩).run Tryd.prog w = .ok (.string (⟨List.toArray (nxB n)⟩ : ByteArray)) w := fun w => add_bytes w rfl (by simp only [List.length_append, List.length_cons, List.length_nil]; omega)
      generalize (⟨List.toArray ([102, 117, 110, 99, 32, 109, 97, 105, 110, 40, 41, 32] ++ (rep n [123, 32]))⟩ : ByteArray) = B_0 at *
      generalize (⟨List.toArray (nxB n)⟩ : ByteArray) = B_1 at *
      generalize (⟨List.toArray (rep n [123, 32])⟩ : ByteArray) = B_2 at *
      generalize (⟨List.toArray (rep n [125, 32])⟩ : ByteArray) = B_3 at *
      clear hr0 hr1
      go_wp2_with fail
      refine (unhide C2 wz (unhide hG)).mono ?_
      rintro e w4 ⟨g4, k4, x4, a4, p4, ao4, n4, c4, rfl⟩
      replace hG := hide ((unhide hG).trans (g4.more (.cells #[.string ⟨k4.toArray⟩, .string ⟨x4.toArray⟩, .int .i64 a4, .slice ao4 n4 c4] 25)))
      clear C2 g4
      go_wp2_with fail
      generalize w4.alloc (.cells #[.string ⟨k4.toArray⟩, .string ⟨x4.toArray⟩, .int .i64 a4, .slice ao4 n4 c4] 25) = wz at *
      go_loopw [22, 23] (fun s0 i wr => wr = wz ∧ ∃ k : Nat, k ≤ n ∧ i = .int .i64 (k : Int) ∧ s0 = .string ⟨(rep k [91, 93]).toArray⟩) (fun _ i _ => n - (intOf i).toNat)
      case atStart => exact ⟨rfl, 0, by omega, rfl, rfl⟩
      case round =>
        obtain ⟨hwz, k, hk, rfl, rfl⟩ := hrel
        obtain rfl : wz = wr := hwz.symm
        clear hwz
        by_cases hlt : k < n
        · have hltz : (k : Int) < (n : Int) := by omega
          have hkz : (k : Int) ≤ 80 := by omega
          have ha0 : ∀ w, (Op.stringOp .add (⟨(rep k [91, 93]).toArray⟩ : ByteArray) ⟨([91, 93] : List UInt8).toArray⟩).run Tryd.prog w = .ok (.string (⟨(rep (k + 1) [91, 93]).toArray⟩ : ByteArray)) w := fun w => add_bytes w (rep_succ k [91, 93]).symm (by have := rep_le k n [91, 93] hk hn2 (by decide); show (rep k [91, 93]).length + 2 ≤ _; omega)
          obtain ⟨TY0, hTY0⟩ : ∃ TY, TY = (⟨(rep (k + 1) [91, 93]).toArray⟩ : ByteArray) := ⟨_, rfl⟩
          rw [← hTY0] at ha0
          replace hTY0 := hide hTY0
          generalize (⟨(rep k [91, 93]).toArray⟩ : ByteArray) = TX0 at *
          clear C3 hG
          go_wp2_with fail
          go_roundw
          case rel => exact ⟨trivial, k + 1, by omega, by first | rfl | go_num, by rw [unhide hTY0]⟩
          case measure => exact dec_1 hlt
        obtain rfl : n = k := by omega
        have hltz : ¬ (n : Int) < (n : Int) := by omega
        clear hlt hk
        have hr0 := rep_le n n [91, 93] (Nat.le_refl _) hn2 (by decide)
        have hc0 : ∀ w, (Op.stringOp .add (⟨List.toArray [118, 97, 114, 32, 120, 32]⟩ : ByteArray) ⟨List.toArray (rep n [91, 93])⟩).run Tryd.prog w = .ok (.string (⟨List.toArray ([118, 97, 114, 32, 120, 32] ++ (rep n [91, 93]))⟩ : ByteArray)) w := fun w => add_bytes w rfl (by simp only [List.length_cons, List.length_nil]; omega)
        have hc1 : ∀ w, (Op.stringOp .add (⟨List.toArray ([118, 97, 114, 32, 120, 32] ++ (rep n [91, 93]))⟩ : ByteArray) ⟨List.toArray [105, 110, 116, 59]⟩).run Tryd.prog w = .ok (.string (⟨List.toArray (nxL n)⟩ : ByteArray)) w := fun w => add_bytes w rfl (by simp only [List.length_append, List.length_cons, List.length_nil]; omega)
        generalize (⟨List.toArray ([118, 97, 114, 32, 120, 32] ++ (rep n [91, 93]))⟩ : ByteArray) = B_0 at *
        generalize (⟨List.toArray (nxL n)⟩ : ByteArray) = B_1 at *
        generalize (⟨List.toArray (rep n [91, 93])⟩ : ByteArray) = B_2 at *
        clear hr0
        go_wp2_with fail
        refine (unhide C3 wz (unhide hG)).mono ?_
        rintro e w5 ⟨g5, k5, x5, a5, p5, ao5, n5, c5, rfl⟩
        replace hG := hide ((unhide hG).trans (g5.more (.cells #[.string ⟨k5.toArray⟩, .string ⟨x5.toArray⟩, .int .i64 a5, .slice ao5 n5 c5] 25)))
        clear C3 g5
        go_wp2_with fail
        go_ret
        exact ⟨rfl, unhide hG⟩
set_option maxHeartbeats 8000000 in
theorem nests_0_2 (n : Nat) (how : Int) (hn1 : 1 ≤ n) (hn2 : n ≤ 80) (hb1 : ¬ bits .and .i64 how 3 = 1) (hb2 : ¬ bits .and .i64 how 3 = 2) (hb3 : ¬ bits .and .i64 how 3 = 3) (hr : 60 < n) (W : World) (hE : EvAt W) (hT : SpAt W) : Calls Tryd.prog 4 #[.int .i64 (n : Int), .int .i64 how] W fun e w' => e = .returned (.bool true) ∧ G W w' := by
  have AW := hide (awake_any W hE hT)
  have C1 := hide fun w1 (g : G W w1) => parse_er (L := nxE [40] [41] n) (by have := nxE_len [40] [41] n (by decide) (by decide) hn2; omega) (hE.g g) (hT.g g) (er := 2) (by rw [fin_80 (p := fun n => (textP (nxE [40] [41] n)).2.2 = if 59 < n then 2 else 0) nx_e0 n hn1 hn2]; rw [if_pos (by omega)])
  have C2 := hide fun w1 (g : G W w1) => parse_er (L := nxB n) (by have := nxB_len n hn2; omega) (hE.g g) (hT.g g) (er := 2) (by rw [fin_80 (p := fun n => (textP (nxB n)).2.2 = if 60 < n then 2 else 0) nx_b n hn1 hn2]; rw [if_pos (by omega)])
  have C3 := hide fun w1 (g : G W w1) => parse_er (L := nxL n) (by have := nxL_len n hn2; omega) (hE.g g) (hT.g g) (er := 2) (by rw [fin_80 (p := fun n => (textP (nxL n)).2.2 = if 59 < n then 2 else 0) nx_l n hn1 hn2]; rw [if_pos (by omega)])
  have n1 : ¬ (n : Int) < 1 := by omega
  have n80 : ¬ (80 : Int) < (n : Int) := by omega
  have n59 : (59 : Int) < (n : Int) := by omega
  have n60 : (60 : Int) < (n : Int) := by omega
  clear hE hT hr
  go_enter Tryd.func4, Tryd.ntmps4
  go_wp2_with fail
  refine (unhide AW).mono ?_
  rintro e wz ⟨rfl, g1⟩
  have hG := hide g1
  clear AW g1
  go_wp2_with fail
  go_loopw [8, 9, 10] (fun s0 s1 i wr => wr = wz ∧ ∃ k : Nat, k ≤ n ∧ i = .int .i64 (k : Int) ∧ s0 = .string ⟨(rep k [40]).toArray⟩ ∧ s1 = .string ⟨(rep k [41]).toArray⟩) (fun _ _ i _ => n - (intOf i).toNat)
  case atStart => exact ⟨rfl, 0, by omega, rfl, rfl, rfl⟩
  case round =>
    obtain ⟨hwz, k, hk, rfl, rfl, rfl⟩ := hrel
    obtain rfl : wz = wr := hwz.symm
    clear hwz
    by_cases hlt : k < n
    · have hltz : (k : Int) < (n : Int) := by omega
      have hkz : (k : Int) ≤ 80 := by omega
      have ha0 : ∀ w, (Op.stringOp .add (⟨(rep k [40]).toArray⟩ : ByteArray) ⟨([40] : List UInt8).toArray⟩).run Tryd.prog w = .ok (.string (⟨(rep (k + 1) [40]).toArray⟩ : ByteArray)) w := fun w => add_bytes w (rep_succ k [40]).symm (by have := rep_le k n [40] hk hn2 (by decide); show (rep k [40]).length + 1 ≤ _; omega)
      have ha1 : ∀ w, (Op.stringOp .add (⟨(rep k [41]).toArray⟩ : ByteArray) ⟨([41] : List UInt8).toArray⟩).run Tryd.prog w = .ok (.string (⟨(rep (k + 1) [41]).toArray⟩ : ByteArray)) w := fun w => add_bytes w (rep_succ k [41]).symm (by have := rep_le k n [41] hk hn2 (by decide); show (rep k [41]).length + 1 ≤ _; omega)
      obtain ⟨TY0, hTY0⟩ : ∃ TY, TY = (⟨(rep (k + 1) [40]).toArray⟩ : ByteArray) := ⟨_, rfl⟩
      rw [← hTY0] at ha0
      replace hTY0 := hide hTY0
      generalize (⟨(rep k [40]).toArray⟩ : ByteArray) = TX0 at *
      obtain ⟨TY1, hTY1⟩ : ∃ TY, TY = (⟨(rep (k + 1) [41]).toArray⟩ : ByteArray) := ⟨_, rfl⟩
      rw [← hTY1] at ha1
      replace hTY1 := hide hTY1
      generalize (⟨(rep k [41]).toArray⟩ : ByteArray) = TX1 at *
      clear C1 C2 C3 hG
      go_wp2_with fail
      go_roundw
      case rel => exact ⟨trivial, k + 1, by omega, by first | rfl | go_num, by rw [unhide hTY0], by rw [unhide hTY1]⟩
      case measure => exact dec_1 hlt
    obtain rfl : n = k := by omega
    have hltz : ¬ (n : Int) < (n : Int) := by omega
    clear hlt hk
    have hr0 := rep_le n n [40] (Nat.le_refl _) hn2 (by decide)
    have hr1 := rep_le n n [41] (Nat.le_refl _) hn2 (by decide)
    have hc0 : ∀ w, (Op.stringOp .add (⟨List.toArray [102, 117, 110, 99, 32, 109, 97, 105, 110, 40, 41, 32, 123, 32, 112, 114, 105, 110, 116, 32]⟩ : ByteArray) ⟨List.toArray (rep n [40])⟩).run Tryd.prog w = .ok (.string (⟨List.toArray ([102, 117, 110, 99, 32, 109, 97, 105, 110, 40, 41, 32, 123, 32, 112, 114, 105, 110, 116, 32] ++ (rep n [40]))⟩ : ByteArray)) w := fun w => add_bytes w rfl (by simp only [List.length_cons, List.length_nil]; omega)
    have hc1 : ∀ w, (Op.stringOp .add (⟨List.toArray ([102, 117, 110, 99, 32, 109, 97, 105, 110, 40, 41, 32, 123, 32, 112, 114, 105, 110, 116, 32] ++ (rep n [40]))⟩ : ByteArray) ⟨List.toArray [49]⟩).run Tryd.prog w = .ok (.string (⟨List.toArray (([102, 117, 110, 99, 32, 109, 97, 105, 110, 40, 41, 32, 123, 32, 112, 114, 105, 110, 116, 32] ++ (rep n [40])) ++ [49])⟩ : ByteArray)) w := fun w => add_bytes w rfl (by simp only [List.length_append, List.length_cons, List.length_nil]; omega)
    have hc2 : ∀ w, (Op.stringOp .add (⟨List.toArray (([102, 117, 110, 99, 32, 109, 97, 105, 110, 40, 41, 32, 123, 32, 112, 114, 105, 110, 116, 32] ++ (rep n [40])) ++ [49])⟩ : ByteArray) ⟨List.toArray (rep n [41])⟩).run Tryd.prog w = .ok (.string (⟨List.toArray ((([102, 117, 110, 99, 32, 109, 97, 105, 110, 40, 41, 32, 123, 32, 112, 114, 105, 110, 116, 32] ++ (rep n [40])) ++ [49]) ++ (rep n [41]))⟩ : ByteArray)) w := fun w => add_bytes w rfl (by simp only [List.length_append, List.length_cons, List.length_nil]; omega)
    have hc3 : ∀ w, (Op.stringOp .add (⟨List.toArray ((([102, 117, 110, 99, 32, 109, 97, 105, 110, 40, 41, 32, 123, 32, 112, 114, 105, 110, 116, 32] ++ (rep n [40])) ++ [49]) ++ (rep n [41]))⟩ : ByteArray) ⟨List.toArray [59, 32, 125]⟩).run Tryd.prog w = .ok (.string (⟨List.toArray (nxE [40] [41] n)⟩ : ByteArray)) w := fun w => add_bytes w rfl (by simp only [List.length_append, List.length_cons, List.length_nil]; omega)
    generalize (⟨List.toArray ([102, 117, 110, 99, 32, 109, 97, 105, 110, 40, 41, 32, 123, 32, 112, 114, 105, 110, 116, 32] ++ (rep n [40]))⟩ : ByteArray) = B_0 at *
    generalize (⟨List.toArray (([102, 117, 110, 99, 32, 109, 97, 105, 110, 40, 41, 32, 123, 32, 112, 114, 105, 110, 116, 32] ++ (rep n [40])) ++ [49])⟩ : ByteArray) = B_1 at *
    generalize (⟨List.toArray ((([102, 117, 110, 99, 32, 109, 97, 105, 110, 40, 41, 32, 123, 32, 112, 114, 105, 110, 116, 32] ++ (rep n [40])) ++ [49]) ++ (rep n [41]))⟩ : ByteArray) = B_2 at *
    generalize (⟨List.toArray (nxE [40] [41] n)⟩ : ByteArray) = B_3 at *
    generalize (⟨List.toArray (rep n [40])⟩ : ByteArray) = B_4 at *
    generalize (⟨List.toArray (rep n [41])⟩ : ByteArray) = B_5 at *
    clear hr0 hr1
    go_wp2_with fail
    refine (unhide C1 wz (unhide hG)).mono ?_
    rintro e w3 ⟨g3, k3, x3, a3, p3, ao3, n3, c3, rfl⟩
    replace hG := hide ((unhide hG).trans (g3.more (.cells #[.string ⟨k3.toArray⟩, .string ⟨x3.toArray⟩, .int .i64 a3, .slice ao3 n3 c3] 25)))
    clear C1 g3
    go_wp2_with fail
    generalize w3.alloc (.cells #[.string ⟨k3.toArray⟩, .string ⟨x3.toArray⟩, .int .i64 a3, .slice ao3 n3 c3] 25) = wz at *
    go_loopw [15, 16, 17] (fun s0 s1 i wr => wr = wz ∧ ∃ k : Nat, k ≤ n ∧ i = .int .i64 (k : Int) ∧ s0 = .string ⟨(rep k [123, 32]).toArray⟩ ∧ s1 = .string ⟨(rep k [125, 32]).toArray⟩) (fun _ _ i _ => n - (intOf i).toNat)
    case atStart => exact ⟨rfl, 0, by omega, rfl, rfl, rfl⟩
    case round =>
      obtain ⟨hwz, k, hk, rfl, rfl, rfl⟩ := hrel
      obtain rfl : wz = wr := hwz.symm
      clear hwz
      by_cases hlt : k < n
      · have hltz : (k : Int) < (n : Int) := by omega
        have hkz : (k : Int) ≤ 80 := by omega
        have ha0 : ∀ w, (Op.stringOp .add (⟨(rep k [123, 32]).toArray⟩ : ByteArray) ⟨([123, 32] : List UInt8).toArray⟩).run Tryd.prog w = .ok (.string (⟨(rep (k + 1) [123, 32]).toArray⟩ : ByteArray)) w := fun w => add_bytes w (rep_succ k [123, 32]).symm (by have := rep_le k n [123, 32] hk hn2 (by decide); show (rep k [123, 32]).length + 2 ≤ _; omega)
        have ha1 : ∀ w, (Op.stringOp .add (⟨(rep k [125, 32]).toArray⟩ : ByteArray) ⟨([125, 32] : List UInt8).toArray⟩).run Tryd.prog w = .ok (.string (⟨(rep (k + 1) [125, 32]).toArray⟩ : ByteArray)) w := fun w => add_bytes w (rep_succ k [125, 32]).symm (by have := rep_le k n [125, 32] hk hn2 (by decide); show (rep k [125, 32]).length + 2 ≤ _; omega)
        obtain ⟨TY0, hTY0⟩ : ∃ TY, TY = (⟨(rep (k + 1) [123, 32]).toArray⟩ : ByteArray) := ⟨_, rfl⟩
        rw [← hTY0] at ha0
        replace hTY0 := hide hTY0
        generalize (⟨(rep k [123, 32]).toArray⟩ : ByteArray) = TX0 at *
        obtain ⟨TY1, hTY1⟩ : ∃ TY, TY = (⟨(rep (k + 1) [125, 32]).toArray⟩ : ByteArray) := ⟨_, rfl⟩
        rw [← hTY1] at ha1
        replace hTY1 := hide hTY1
        generalize (⟨(rep k [125, 32]).toArray⟩ : ByteArray) = TX1 at *
        clear C2 C3 hG
        go_wp2_with fail
        go_roundw
        case rel => exact ⟨trivial, k + 1, by omega, by first | rfl | go_num, by rw [unhide hTY0], by rw [unhide hTY1]⟩
        case measure => exact dec_1 hlt
      obtain rfl : n = k := by omega
      have hltz : ¬ (n : Int) < (n : Int) := by omega
      clear hlt hk
      have hr0 := rep_le n n [123, 32] (Nat.le_refl _) hn2 (by decide)
      have hr1 := rep_le n n [125, 32] (Nat.le_refl _) hn2 (by decide)
      have hc0 : ∀ w, (Op.stringOp .add (⟨List.toArray [102, 117, 110, 99, 32, 109, 97, 105, 110, 40, 41, 32]⟩ : ByteArray) ⟨List.toArray (rep n [123, 32])⟩).run Tryd.prog w = .ok (.string (⟨List.toArray ([102, 117, 110, 99, 32, 109, 97, 105, 110, 40, 41, 32] ++ (rep n [123, 32]))⟩ : ByteArray)) w := fun w => add_bytes w rfl (by simp only [List.length_cons, List.length_nil]; omega)
      have hc1 : ∀ w, (Op.stringOp .add (⟨List.toArray ([102, 117, 110, 99, 32, 109, 97, 105, 110, 40, 41, 32] ++ (rep n [123, 32]))⟩ : ByteArray) ⟨List.toArray (rep n [125, 32])⟩).run Tryd.prog w = .ok (.string (⟨List.toArray (nxB n)⟩ : ByteArray)) w := fun w => add_bytes w rfl (by simp only [List.length_append, List.length_cons, List.length_nil]; omega)
      generalize (⟨List.toArray ([102, 117, 110, 99, 32, 109, 97, 105, 110, 40, 41, 32] ++ (rep n [123, 32]))⟩ : ByteArray) = B_0 at *
      generalize (⟨List.toArray (nxB n)⟩ : ByteArray) = B_1 at *
      generalize (⟨List.toArray (rep n [123, 32])⟩ : ByteArray) = B_2 at *
      generalize (⟨List.toArray (rep n [125, 32])⟩ : ByteArray) = B_3 at *
      clear hr0 hr1
      go_wp2_with fail
      refine (unhide C2 wz (unhide hG)).mono ?_
      rintro e w4 ⟨g4, k4, x4, a4, p4, ao4, n4, c4, rfl⟩
      replace hG := hide ((unhide hG).trans (g4.more (.cells #[.string ⟨k4.toArray⟩, .string ⟨x4.toArray⟩, .int .i64 a4, .slice ao4 n4 c4] 25)))
      clear C2 g4
      go_wp2_with fail
      generalize w4.alloc (.cells #[.string ⟨k4.toArray⟩, .string ⟨x4.toArray⟩, .int .i64 a4, .slice ao4 n4 c4] 25) = wz at *
      go_loopw [22, 23] (fun s0 i wr => wr = wz ∧ ∃ k : Nat, k ≤ n ∧ i = .int .i64 (k : Int) ∧ s0 = .string ⟨(rep k [91, 93]).toArray⟩) (fun _ i _ => n - (intOf i).toNat)
      case atStart => exact ⟨rfl, 0, by omega, rfl, rfl⟩
      case round =>
        obtain ⟨hwz, k, hk, rfl, rfl⟩ := hrel
        obtain rfl : wz = wr := hwz.symm
        clear hwz
        by_cases hlt : k < n
        · have hltz : (k : Int) < (n : Int) := by omega
          have hkz : (k : Int) ≤ 80 := by omega
          have ha0 : ∀ w, (Op.stringOp .add (⟨(rep k [91, 93]).toArray⟩ : ByteArray) ⟨([91, 93] : List UInt8).toArray⟩).run Tryd.prog w = .ok (.string (⟨(rep (k + 1) [91, 93]).toArray⟩ : ByteArray)) w := fun w => add_bytes w (rep_succ k [91, 93]).symm (by have := rep_le k n [91, 93] hk hn2 (by decide); show (rep k [91, 93]).length + 2 ≤ _; omega)
          obtain ⟨TY0, hTY0⟩ : ∃ TY, TY = (⟨(rep (k + 1) [91, 93]).toArray⟩ : ByteArray) := ⟨_, rfl⟩
          rw [← hTY0] at ha0
          replace hTY0 := hide hTY0
          generalize (⟨(rep k [91, 93]).toArray⟩ : ByteArray) = TX0 at *
          clear C3 hG
          go_wp2_with fail
          go_roundw
          case rel => exact ⟨trivial, k + 1, by omega, by first | rfl | go_num, by rw [unhide hTY0]⟩
          case measure => exact dec_1 hlt
        obtain rfl : n = k := by omega
        have hltz : ¬ (n : Int) < (n : Int) := by omega
        clear hlt hk
        have hr0 := rep_le n n [91, 93] (Nat.le_refl _) hn2 (by decide)
        have hc0 : ∀ w, (Op.stringOp .add (⟨List.toArray [118, 97, 114, 32, 120, 32]⟩ : ByteArray) ⟨List.toArray (rep n [91, 93])⟩).run Tryd.prog w = .ok (.string (⟨List.toArray ([118, 97, 114, 32, 120, 32] ++ (rep n [91, 93]))⟩ : ByteArray)) w := fun w => add_bytes w rfl (by simp only [List.length_cons, List.length_nil]; omega)
        have hc1 : ∀ w, (Op.stringOp .add (⟨List.toArray ([118, 97, 114, 32, 120, 32] ++ (rep n [91, 93]))⟩ : ByteArray) ⟨List.toArray [105, 110, 116, 59]⟩).run Tryd.prog w = .ok (.string (⟨List.toArray (nxL n)⟩ : ByteArray)) w := fun w => add_bytes w rfl (by simp only [List.length_append, List.length_cons, List.length_nil]; omega)
        generalize (⟨List.toArray ([118, 97, 114, 32, 120, 32] ++ (rep n [91, 93]))⟩ : ByteArray) = B_0 at *
        generalize (⟨List.toArray (nxL n)⟩ : ByteArray) = B_1 at *
        generalize (⟨List.toArray (rep n [91, 93])⟩ : ByteArray) = B_2 at *
        clear hr0
        go_wp2_with fail
        refine (unhide C3 wz (unhide hG)).mono ?_
        rintro e w5 ⟨g5, k5, x5, a5, p5, ao5, n5, c5, rfl⟩
        replace hG := hide ((unhide hG).trans (g5.more (.cells #[.string ⟨k5.toArray⟩, .string ⟨x5.toArray⟩, .int .i64 a5, .slice ao5 n5 c5] 25)))
        clear C3 g5
        go_wp2_with fail
        go_ret
        exact ⟨rfl, unhide hG⟩
end Go.Proofs.YtablincnlfbjnaaDoor

/- ParseNests of gantlinelaw21: the walk (laid by py/pans.py). -/
namespace Go.Proofs.YtablincnlfbjnaaDoor
set_option maxRecDepth 100000
open Go.RowKit Go.Maps Go.ChangeShapes Go.WideShapes Go.ChangeAt Go.Deep

set_option maxHeartbeats 8000000 in
theorem nests_1_0 (n : Nat) (how : Int) (hn1 : 1 ≤ n) (hn2 : n ≤ 80) (hb : bits .and .i64 how 3 = 1) (hr : n ≤ 59) (W : World) (hE : EvAt W) (hT : SpAt W) : Calls Tryd.prog 4 #[.int .i64 (n : Int), .int .i64 how] W fun e w' => e = .returned (.bool true) ∧ G W w' := by
  have AW := hide (awake_any W hE hT)
  have C1 := hide fun w1 (g : G W w1) => parse_er (L := nxE [45] [] n) (by have := nxE_len [45] [] n (by decide) (by decide) hn2; omega) (hE.g g) (hT.g g) (er := 0) (by rw [fin_80 (p := fun n => (textP (nxE [45] [] n)).2.2 = if 59 < n then 2 else 0) nx_e1 n hn1 hn2]; rw [if_neg (by omega)])
  have C2 := hide fun w1 (g : G W w1) => parse_er (L := nxB n) (by have := nxB_len n hn2; omega) (hE.g g) (hT.g g) (er := 0) (by rw [fin_80 (p := fun n => (textP (nxB n)).2.2 = if 60 < n then 2 else 0) nx_b n hn1 hn2]; rw [if_neg (by omega)])
  have C3 := hide fun w1 (g : G W w1) => parse_er (L := nxL n) (by have := nxL_len n hn2; omega) (hE.g g) (hT.g g) (er := 0) (by rw [fin_80 (p := fun n => (textP (nxL n)).2.2 = if 59 < n then 2 else 0) nx_l n hn1 hn2]; rw [if_neg (by omega)])
  have n1 : ¬ (n : Int) < 1 := by omega
  have n80 : ¬ (80 : Int) < (n : Int) := by omega
  have n59 : ¬ (59 : Int) < (n : Int) := by omega
  have n60 : ¬ (60 : Int) < (n : Int) := by omega
  clear hE hT hr
  go_enter Tryd.func4, Tryd.ntmps4
  go_wp2_with fail
  refine (unhide AW).mono ?_
  rintro e wz ⟨rfl, g1⟩
  have hG := hide g1
  clear AW g1
  go_wp2_with fail
  go_loopw [8, 9, 10] (fun s0 s1 i wr => wr = wz ∧ ∃ k : Nat, k ≤ n ∧ i = .int .i64 (k : Int) ∧ s0 = .string ⟨(rep k [45]).toArray⟩ ∧ s1 = .string ⟨(rep k []).toArray⟩) (fun _ _ i _ => n - (intOf i).toNat)
  case atStart => exact ⟨rfl, 0, by omega, rfl, rfl, rfl⟩
  case round =>
    obtain ⟨hwz, k, hk, rfl, rfl, rfl⟩ := hrel
    obtain rfl : wz = wr := hwz.symm
    clear hwz
    by_cases hlt : k < n
    · have hltz : (k : Int) < (n : Int) := by omega
      have hkz : (k : Int) ≤ 80 := by omega
      have ha0 : ∀ w, (Op.stringOp .add (⟨(rep k [45]).toArray⟩ : ByteArray) ⟨([45] : List UInt8).toArray⟩).run Tryd.prog w = .ok (.string (⟨(rep (k + 1) [45]).toArray⟩ : ByteArray)) w := fun w => add_bytes w (rep_succ k [45]).symm (by have := rep_le k n [45] hk hn2 (by decide); show (rep k [45]).length + 1 ≤ _; omega)
      have ha1 : ∀ w, (Op.stringOp .add (⟨(rep k []).toArray⟩ : ByteArray) ⟨([] : List UInt8).toArray⟩).run Tryd.prog w = .ok (.string (⟨(rep (k + 1) []).toArray⟩ : ByteArray)) w := fun w => add_bytes w (rep_succ k []).symm (by have := rep_le k n [] hk hn2 (by decide); show (rep k []).length + 0 ≤ _; omega)
      obtain ⟨TY0, hTY0⟩ : ∃ TY, TY = (⟨(rep (k + 1) [45]).toArray⟩ : ByteArray) := ⟨_, rfl⟩
      rw [← hTY0] at ha0
      replace hTY0 := hide hTY0
      generalize (⟨(rep k [45]).toArray⟩ : ByteArray) = TX0 at *
      obtain ⟨TY1, hTY1⟩ : ∃ TY, TY = (⟨(rep (k + 1) []).toArray⟩ : ByteArray) := ⟨_, rfl⟩
      rw [← hTY1] at ha1
      replace hTY1 := hide hTY1
      generalize (⟨(rep k []).toArray⟩ : ByteArray) = TX1 at *
      clear C1 C2 C3 hG
      go_wp2_with fail
      go_roundw
      case rel => exact ⟨trivial, k + 1, by omega, by first | rfl | go_num, by rw [unhide hTY0], by rw [unhide hTY1]⟩
      case measure => exact dec_1 hlt
    obtain rfl : n = k := by omega
    have hltz : ¬ (n : Int) < (n : Int) := by omega
    clear hlt hk
    have hr0 := rep_le n n [45] (Nat.le_refl _) hn2 (by decide)
    have hr1 := rep_le n n [] (Nat.le_refl _) hn2 (by decide)
    have hc0 : ∀ w, (Op.stringOp .add (⟨List.toArray [102, 117, 110, 99, 32, 109, 97, 105, 110, 40, 41, 32, 123, 32, 112, 114, 105, 110, 116, 32]⟩ : ByteArray) ⟨List.toArray (rep n [45])⟩).run Tryd.prog w = .ok (.string (⟨List.toArray ([102, 117, 110, 99, 32, 109, 97, 105, 110, 40, 41, 32, 123, 32, 112, 114, 105, 110, 116, 32] ++ (rep n [45]))⟩ : ByteArray)) w := fun w => add_bytes w rfl (by simp only [List.length_cons, List.length_nil]; omega)
    have hc1 : ∀ w, (Op.stringOp .add (⟨List.toArray ([102, 117, 110, 99, 32, 109, 97, 105, 110, 40, 41, 32, 123, 32, 112, 114, 105, 110, 116, 32] ++ (rep n [45]))⟩ : ByteArray) ⟨List.toArray [49]⟩).run Tryd.prog w = .ok (.string (⟨List.toArray (([102, 117, 110, 99, 32, 109, 97, 105, 110, 40, 41, 32, 123, 32, 112, 114, 105, 110, 116, 32] ++ (rep n [45])) ++ [49])⟩ : ByteArray)) w := fun w => add_bytes w rfl (by simp only [List.length_append, List.length_cons, List.length_nil]; omega)
    have hc2 : ∀ w, (Op.stringOp .add (⟨List.toArray (([102, 117, 110, 99, 32, 109, 97, 105, 110, 40, 41, 32, 123, 32, 112, 114, 105, 110, 116, 32] ++ (rep n [45])) ++ [49])⟩ : ByteArray) ⟨List.toArray (rep n [])⟩).run Tryd.prog w = .ok (.string (⟨List.toArray ((([102, 117, 110, 99, 32, 109, 97, 105, 110, 40, 41, 32, 123, 32, 112, 114, 105, 110, 116, 32] ++ (rep n [45])) ++ [49]) ++ (rep n []))⟩ : ByteArray)) w := fun w => add_bytes w rfl (by simp only [List.length_append, List.length_cons, List.length_nil]; omega)
    have hc3 : ∀ w, (Op.stringOp .add (⟨List.toArray ((([102, 117, 110, 99, 32, 109, 97, 105, 110, 40, 41, 32, 123, 32, 112, 114, 105, 110, 116, 32] ++ (rep n [45])) ++ [49]) ++ (rep n []))⟩ : ByteArray) ⟨List.toArray [59, 32, 125]⟩).run Tryd.prog w = .ok (.string (⟨List.toArray (nxE [45] [] n)⟩ : ByteArray)) w := fun w => add_bytes w rfl (by simp only [List.length_append, List.length_cons, List.length_nil]; omega)
    generalize (⟨List.toArray ([102, 117, 110, 99, 32, 109, 97, 105, 110, 40, 41, 32, 123, 32, 112, 114, 105, 110, 116, 32] ++ (rep n [45]))⟩ : ByteArray) = B_0 at *
    generalize (⟨List.toArray (([102, 117, 110, 99, 32, 109, 97, 105, 110, 40, 41, 32, 123, 32, 112, 114, 105, 110, 116, 32] ++ (rep n [45])) ++ [49])⟩ : ByteArray) = B_1 at *
    generalize (⟨List.toArray ((([102, 117, 110, 99, 32, 109, 97, 105, 110, 40, 41, 32, 123, 32, 112, 114, 105, 110, 116, 32] ++ (rep n [45])) ++ [49]) ++ (rep n []))⟩ : ByteArray) = B_2 at *
    generalize (⟨List.toArray (nxE [45] [] n)⟩ : ByteArray) = B_3 at *
    generalize (⟨List.toArray (rep n [45])⟩ : ByteArray) = B_4 at *
    generalize (⟨List.toArray (rep n [])⟩ : ByteArray) = B_5 at *
    clear hr0 hr1
    go_wp2_with fail
    refine (unhide C1 wz (unhide hG)).mono ?_
    rintro e w3 ⟨g3, k3, x3, a3, p3, ao3, n3, c3, rfl⟩
    replace hG := hide ((unhide hG).trans (g3.more (.cells #[.string ⟨k3.toArray⟩, .string ⟨x3.toArray⟩, .int .i64 a3, .slice ao3 n3 c3] 25)))
    clear C1 g3
    go_wp2_with fail
    generalize w3.alloc (.cells #[.string ⟨k3.toArray⟩, .string ⟨x3.toArray⟩, .int .i64 a3, .slice ao3 n3 c3] 25) = wz at *
    go_loopw [15, 16, 17] (fun s0 s1 i wr => wr = wz ∧ ∃ k : Nat, k ≤ n ∧ i = .int .i64 (k : Int) ∧ s0 = .string ⟨(rep k [123, 32]).toArray⟩ ∧ s1 = .string ⟨(rep k [125, 32]).toArray⟩) (fun _ _ i _ => n - (intOf i).toNat)
    case atStart => exact ⟨rfl, 0, by omega, rfl, rfl, rfl⟩
    case round =>
      obtain ⟨hwz, k, hk, rfl, rfl, rfl⟩ := hrel
      obtain rfl : wz = wr := hwz.symm
      clear hwz
      by_cases hlt : k < n
      · have hltz : (k : Int) < (n : Int) := by omega
        have hkz : (k : Int) ≤ 80 := by omega
        have ha0 : ∀ w, (Op.stringOp .add (⟨(rep k [123, 32]).toArray⟩ : ByteArray) ⟨([123, 32] : List UInt8).toArray⟩).run Tryd.prog w = .ok (.string (⟨(rep (k + 1) [123, 32]).toArray⟩ : ByteArray)) w := fun w => add_bytes w (rep_succ k [123, 32]).symm (by have := rep_le k n [123, 32] hk hn2 (by decide); show (rep k [123, 32]).length + 2 ≤ _; omega)
        have ha1 : ∀ w, (Op.stringOp .add (⟨(rep k [125, 32]).toArray⟩ : ByteArray) ⟨([125, 32] : List UInt8).toArray⟩).run Tryd.prog w = .ok (.string (⟨(rep (k + 1) [125, 32]).toArray⟩ : ByteArray)) w := fun w => add_bytes w (rep_succ k [125, 32]).symm (by have := rep_le k n [125, 32] hk hn2 (by decide); show (rep k [125, 32]).length + 2 ≤ _; omega)
        obtain ⟨TY0, hTY0⟩ : ∃ TY, TY = (⟨(rep (k + 1) [123, 32]).toArray⟩ : ByteArray) := ⟨_, rfl⟩
        rw [← hTY0] at ha0
        replace hTY0 := hide hTY0
        generalize (⟨(rep k [123, 32]).toArray⟩ : ByteArray) = TX0 at *
        obtain ⟨TY1, hTY1⟩ : ∃ TY, TY = (⟨(rep (k + 1) [125, 32]).toArray⟩ : ByteArray) := ⟨_, rfl⟩
        rw [← hTY1] at ha1
        replace hTY1 := hide hTY1
        generalize (⟨(rep k [125, 32]).toArray⟩ : ByteArray) = TX1 at *
        clear C2 C3 hG
        go_wp2_with fail
        go_roundw
        case rel => exact ⟨trivial, k + 1, by omega, by first | rfl | go_num, by rw [unhide hTY0], by rw [unhide hTY1]⟩
        case measure => exact dec_1 hlt
      obtain rfl : n = k := by omega
      have hltz : ¬ (n : Int) < (n : Int) := by omega
      clear hlt hk
      have hr0 := rep_le n n [123, 32] (Nat.le_refl _) hn2 (by decide)
      have hr1 := rep_le n n [125, 32] (Nat.le_refl _) hn2 (by decide)
      have hc0 : ∀ w, (Op.stringOp .add (⟨List.toArray [102, 117, 110, 99, 32, 109, 97, 105, 110, 40, 41, 32]⟩ : ByteArray) ⟨List.toArray (rep n [123, 32])⟩).run Tryd.prog w = .ok (.string (⟨List.toArray ([102, 117, 110, 99, 32, 109, 97, 105, 110, 40, 41, 32] ++ (rep n [123, 32]))⟩ : ByteArray)) w := fun w => add_bytes w rfl (by simp only [List.length_cons, List.length_nil]; omega)
      have hc1 : ∀ w, (Op.stringOp .add (⟨List.toArray ([102, 117, 110, 99, 32, 109, 97, 105, 110, 40, 41, 32] ++ (rep n [123, 32]))⟩ : ByteArray) ⟨List.toArray (rep n [125, 32])⟩).run Tryd.prog w = .ok (.string (⟨List.toArray (nxB n)⟩ : ByteArray)) w := fun w => add_bytes w rfl (by simp only [List.length_append, List.length_cons, List.length_nil]; omega)
      generalize (⟨List.toArray ([102, 117, 110, 99, 32, 109, 97, 105, 110, 40, 41, 32] ++ (rep n [123, 32]))⟩ : ByteArray) = B_0 at *
      generalize (⟨List.toArray (nxB n)⟩ : ByteArray) = B_1 at *
      generalize (⟨List.toArray (rep n [123, 32])⟩ : ByteArray) = B_2 at *
      generalize (⟨List.toArray (rep n [125, 32])⟩ : ByteArray) = B_3 at *
      clear hr0 hr1
      go_wp2_with fail
      refine (unhide C2 wz (unhide hG)).mono ?_
      rintro e w4 ⟨g4, k4, x4, a4, p4, ao4, n4, c4, rfl⟩
      replace hG := hide ((unhide hG).trans (g4.more (.cells #[.string ⟨k4.toArray⟩, .string ⟨x4.toArray⟩, .int .i64 a4, .slice ao4 n4 c4] 25)))
      clear C2 g4
      go_wp2_with fail
      generalize w4.alloc (.cells #[.string ⟨k4.toArray⟩, .string ⟨x4.toArray⟩, .int .i64 a4, .slice ao4 n4 c4] 25) = wz at *
      go_loopw [22, 23] (fun s0 i wr => wr = wz ∧ ∃ k : Nat, k ≤ n ∧ i = .int .i64 (k : Int) ∧ s0 = .string ⟨(rep k [91, 93]).toArray⟩) (fun _ i _ => n - (intOf i).toNat)
      case atStart => exact ⟨rfl, 0, by omega, rfl, rfl⟩
      case round =>
        obtain ⟨hwz, k, hk, rfl, rfl⟩ := hrel
        obtain rfl : wz = wr := hwz.symm
        clear hwz
        by_cases hlt : k < n
        · have hltz : (k : Int) < (n : Int) := by omega
          have hkz : (k : Int) ≤ 80 := by omega
          have ha0 : ∀ w, (Op.stringOp .add (⟨(rep k [91, 93]).toArray⟩ : ByteArray) ⟨([91, 93] : List UInt8).toArray⟩).run Tryd.prog w = .ok (.string (⟨(rep (k + 1) [91, 93]).toArray⟩ : ByteArray)) w := fun w => add_bytes w (rep_succ k [91, 93]).symm (by have := rep_le k n [91, 93] hk hn2 (by decide); show (rep k [91, 93]).length + 2 ≤ _; omega)
          obtain ⟨TY0, hTY0⟩ : ∃ TY, TY = (⟨(rep (k + 1) [91, 93]).toArray⟩ : ByteArray) := ⟨_, rfl⟩
          rw [← hTY0] at ha0
          replace hTY0 := hide hTY0
          generalize (⟨(rep k [91, 93]).toArray⟩ : ByteArray) = TX0 at *
          clear C3 hG
          go_wp2_with fail
          go_roundw
          case rel => exact ⟨trivial, k + 1, by omega, by first | rfl | go_num, by rw [unhide hTY0]⟩
          case measure => exact dec_1 hlt
        obtain rfl : n = k := by omega
        have hltz : ¬ (n : Int) < (n : Int) := by omega
        clear hlt hk
        have hr0 := rep_le n n [91, 93] (Nat.le_refl _) hn2 (by decide)
        have hc0 : ∀ w, (Op.stringOp .add (⟨List.toArray [118, 97, 114, 32, 120, 32]⟩ : ByteArray) ⟨List.toArray (rep n [91, 93])⟩).run Tryd.prog w = .ok (.string (⟨List.toArray ([118, 97, 114, 32, 120, 32] ++ (rep n [91, 93]))⟩ : ByteArray)) w := fun w => add_bytes w rfl (by simp only [List.length_cons, List.length_nil]; omega)
        have hc1 : ∀ w, (Op.stringOp .add (⟨List.toArray ([118, 97, 114, 32, 120, 32] ++ (rep n [91, 93]))⟩ : ByteArray) ⟨List.toArray [105, 110, 116, 59]⟩).run Tryd.prog w = .ok (.string (⟨List.toArray (nxL n)⟩ : ByteArray)) w := fun w => add_bytes w rfl (by simp only [List.length_append, List.length_cons, List.length_nil]; omega)
        generalize (⟨List.toArray ([118, 97, 114, 32, 120, 32] ++ (rep n [91, 93]))⟩ : ByteArray) = B_0 at *
        generalize (⟨List.toArray (nxL n)⟩ : ByteArray) = B_1 at *
        generalize (⟨List.toArray (rep n [91, 93])⟩ : ByteArray) = B_2 at *
        clear hr0
        go_wp2_with fail
        refine (unhide C3 wz (unhide hG)).mono ?_
        rintro e w5 ⟨g5, k5, x5, a5, p5, ao5, n5, c5, rfl⟩
        replace hG := hide ((unhide hG).trans (g5.more (.cells #[.string ⟨k5.toArray⟩, .string ⟨x5.toArray⟩, .int .i64 a5, .slice ao5 n5 c5] 25)))
        clear C3 g5
        go_wp2_with fail
        go_ret
        exact ⟨rfl, unhide hG⟩
set_option maxHeartbeats 8000000 in
theorem nests_1_1 (n : Nat) (how : Int) (hn1 : 1 ≤ n) (hn2 : n ≤ 80) (hb : bits .and .i64 how 3 = 1) (hr : n = 60) (W : World) (hE : EvAt W) (hT : SpAt W) : Calls Tryd.prog 4 #[.int .i64 (n : Int), .int .i64 how] W fun e w' => e = .returned (.bool true) ∧ G W w' := by
  have AW := hide (awake_any W hE hT)
  have C1 := hide fun w1 (g : G W w1) => parse_er (L := nxE [45] [] n) (by have := nxE_len [45] [] n (by decide) (by decide) hn2; omega) (hE.g g) (hT.g g) (er := 2) (by rw [fin_80 (p := fun n => (textP (nxE [45] [] n)).2.2 = if 59 < n then 2 else 0) nx_e1 n hn1 hn2]; rw [if_pos (by omega)])
  have C2 := hide fun w1 (g : G W w1) => parse_er (L := nxB n) (by have := nxB_len n hn2; omega) (hE.g g) (hT.g g) (er := 0) (by rw [fin_80 (p := fun n => (textP (nxB n)).2.2 = if 60 < n then 2 else 0) nx_b n hn1 hn2]; rw [if_neg (by omega)])
  have C3 := hide fun w1 (g : G W w1) => parse_er (L := nxL n) (by have := nxL_len n hn2; omega) (hE.g g) (hT.g g) (er := 2) (by rw [fin_80 (p := fun n => (textP (nxL n)).2.2 = if 59 < n then 2 else 0) nx_l n hn1 hn2]; rw [if_pos (by omega)])
  have n1 : ¬ (n : Int) < 1 := by omega
  have n80 : ¬ (80 : Int) < (n : Int) := by omega
  have n59 : (59 : Int) < (n : Int) := by omega
  have n60 : ¬ (60 : Int) < (n : Int) := by omega
  clear hE hT hr
  go_enter Tryd.func4, Tryd.ntmps4
  go_wp2_with fail
  refine (unhide AW).mono ?_
  rintro e wz ⟨rfl, g1⟩
  have hG := hide g1
  clear AW g1
  go_wp2_with fail
  go_loopw [8, 9, 10] (fun s0 s1 i wr => wr = wz ∧ ∃ k : Nat, k ≤ n ∧ i = .int .i64 (k : Int) ∧ s0 = .string ⟨(rep k [45]).toArray⟩ ∧ s1 = .string ⟨(rep k []).toArray⟩) (fun _ _ i _ => n - (intOf i).toNat)
  case atStart => exact ⟨rfl, 0, by omega, rfl, rfl, rfl⟩
  case round =>
    obtain ⟨hwz, k, hk, rfl, rfl, rfl⟩ := hrel
    obtain rfl : wz = wr := hwz.symm
    clear hwz
    by_cases hlt : k < n
    · have hltz : (k : Int) < (n : Int) := by omega
      have hkz : (k : Int) ≤ 80 := by omega
      have ha0 : ∀ w, (Op.stringOp .add (⟨(rep k [45]).toArray⟩ : ByteArray) ⟨([45] : List UInt8).toArray⟩).run Tryd.prog w = .ok (.string (⟨(rep (k + 1) [45]).toArray⟩ : ByteArray)) w := fun w => add_bytes w (rep_succ k [45]).symm (by have := rep_le k n [45] hk hn2 (by decide); show (rep k [45]).length + 1 ≤ _; omega)
      have ha1 : ∀ w, (Op.stringOp .add (⟨(rep k []).toArray⟩ : ByteArray) ⟨([] : List UInt8).toArray⟩).run Tryd.prog w = .ok (.string (⟨(rep (k + 1) []).toArray⟩ : ByteArray)) w := fun w => add_bytes w (rep_succ k []).symm (by have := rep_le k n [] hk hn2 (by decide); show (rep k []).length + 0 ≤ _; omega)
      obtain ⟨TY0, hTY0⟩ : ∃ TY, TY = (⟨(rep (k + 1) [45]).toArray⟩ : ByteArray) := ⟨_, rfl⟩
      rw [← hTY0] at ha0
      replace hTY0 := hide hTY0
      generalize (⟨(rep k [45]).toArray⟩ : ByteArray) = TX0 at *
      obtain ⟨TY1, hTY1⟩ : ∃ TY, TY = (⟨(rep (k + 1) []).toArray⟩ : ByteArray) := ⟨_, rfl⟩
      rw [← hTY1] at ha1
      replace hTY1 := hide hTY1
      generalize (⟨(rep k []).toArray⟩ : ByteArray) = TX1 at *
      clear C1 C2 C3 hG
      go_wp2_with fail
      go_roundw
      case rel => exact ⟨trivial, k + 1, by omega, by first | rfl | go_num, by rw [unhide hTY0], by rw [unhide hTY1]⟩
      case measure => exact dec_1 hlt
    obtain rfl : n = k := by omega
    have hltz : ¬ (n : Int) < (n : Int) := by omega
    clear hlt hk
    have hr0 := rep_le n n [45] (Nat.le_refl _) hn2 (by decide)
    have hr1 := rep_le n n [] (Nat.le_refl _) hn2 (by decide)
    have hc0 : ∀ w, (Op.stringOp .add (⟨List.toArray [102, 117, 110, 99, 32, 109, 97, 105, 110, 40, 41, 32, 123, 32, 112, 114, 105, 110, 116, 32]⟩ : ByteArray) ⟨List.toArray (rep n [45])⟩).run Tryd.prog w = .ok (.string (⟨List.toArray ([102, 117, 110, 99, 32, 109, 97, 105, 110, 40, 41, 32, 123, 32, 112, 114, 105, 110, 116, 32] ++ (rep n [45]))⟩ : ByteArray)) w := fun w => add_bytes w rfl (by simp only [List.length_cons, List.length_nil]; omega)
    have hc1 : ∀ w, (Op.stringOp .add (⟨List.toArray ([102, 117, 110, 99, 32, 109, 97, 105, 110, 40, 41, 32, 123, 32, 112, 114, 105, 110, 116, 32] ++ (rep n [45]))⟩ : ByteArray) ⟨List.toArray [49]⟩).run Tryd.prog w = .ok (.string (⟨List.toArray (([102, 117, 110, 99, 32, 109, 97, 105, 110, 40, 41, 32, 123, 32, 112, 114, 105, 110, 116, 32] ++ (rep n [45])) ++ [49])⟩ : ByteArray)) w := fun w => add_bytes w rfl (by simp only [List.length_append, List.length_cons, List.length_nil]; omega)
    have hc2 : ∀ w, (Op.stringOp .add (⟨List.toArray (([102, 117, 110, 99, 32, 109, 97, 105, 110, 40, 41, 32, 123, 32, 112, 114, 105, 110, 116, 32] ++ (rep n [45])) ++ [49])⟩ : ByteArray) ⟨List.toArray (rep n [])⟩).run Tryd.prog w = .ok (.string (⟨List.toArray ((([102, 117, 110, 99, 32, 109, 97, 105, 110, 40, 41, 32, 123, 32, 112, 114, 105, 110, 116, 32] ++ (rep n [45])) ++ [49]) ++ (rep n []))⟩ : ByteArray)) w := fun w => add_bytes w rfl (by simp only [List.length_append, List.length_cons, List.length_nil]; omega)
    have hc3 : ∀ w, (Op.stringOp .add (⟨List.toArray ((([102, 117, 110, 99, 32, 109, 97, 105, 110, 40, 41, 32, 123, 32, 112, 114, 105, 110, 116, 32] ++ (rep n [45])) ++ [49]) ++ (rep n []))⟩ : ByteArray) ⟨List.toArray [59, 32, 125]⟩).run Tryd.prog w = .ok (.string (⟨List.toArray (nxE [45] [] n)⟩ : ByteArray)) w := fun w => add_bytes w rfl (by simp only [List.length_append, List.length_cons, List.length_nil]; omega)
    generalize (⟨List.toArray ([102, 117, 110, 99, 32, 109, 97, 105, 110, 40, 41, 32, 123, 32, 112, 114, 105, 110, 116, 32] ++ (rep n [45]))⟩ : ByteArray) = B_0 at *
    generalize (⟨List.toArray (([102, 117, 110, 99, 32, 109, 97, 105, 110, 40, 41, 32, 123, 32, 112, 114, 105, 110, 116, 32] ++ (rep n [45])) ++ [49])⟩ : ByteArray) = B_1 at *
    generalize (⟨List.toArray ((([102, 117, 110, 99, 32, 109, 97, 105, 110, 40, 41, 32, 123, 32, 112, 114, 105, 110, 116, 32] ++ (rep n [45])) ++ [49]) ++ (rep n []))⟩ : ByteArray) = B_2 at *
    generalize (⟨List.toArray (nxE [45] [] n)⟩ : ByteArray) = B_3 at *
    generalize (⟨List.toArray (rep n [45])⟩ : ByteArray) = B_4 at *
    generalize (⟨List.toArray (rep n [])⟩ : ByteArray) = B_5 at *
    clear hr0 hr1
    go_wp2_with fail
    refine (unhide C1 wz (unhide hG)).mono ?_
    rintro e w3 ⟨g3, k3, x3, a3, p3, ao3, n3, c3, rfl⟩
    replace hG := hide ((unhide hG).trans (g3.more (.cells #[.string ⟨k3.toArray⟩, .string ⟨x3.toArray⟩, .int .i64 a3, .slice ao3 n3 c3] 25)))
    clear C1 g3
    go_wp2_with fail
    generalize w3.alloc (.cells #[.string ⟨k3.toArray⟩, .string ⟨x3.toArray⟩, .int .i64 a3, .slice ao3 n3 c3] 25) = wz at *
    go_loopw [15, 16, 17] (fun s0 s1 i wr => wr = wz ∧ ∃ k : Nat, k ≤ n ∧ i = .int .i64 (k : Int) ∧ s0 = .string ⟨(rep k [123, 32]).toArray⟩ ∧ s1 = .string ⟨(rep k [125, 32]).toArray⟩) (fun _ _ i _ => n - (intOf i).toNat)
    case atStart => exact ⟨rfl, 0, by omega, rfl, rfl, rfl⟩
    case round =>
      obtain ⟨hwz, k, hk, rfl, rfl, rfl⟩ := hrel
      obtain rfl : wz = wr := hwz.symm
      clear hwz
      by_cases hlt : k < n
      · have hltz : (k : Int) < (n : Int) := by omega
        have hkz : (k : Int) ≤ 80 := by omega
        have ha0 : ∀ w, (Op.stringOp .add (⟨(rep k [123, 32]).toArray⟩ : ByteArray) ⟨([123, 32] : List UInt8).toArray⟩).run Tryd.prog w = .ok (.string (⟨(rep (k + 1) [123, 32]).toArray⟩ : ByteArray)) w := fun w => add_bytes w (rep_succ k [123, 32]).symm (by have := rep_le k n [123, 32] hk hn2 (by decide); show (rep k [123, 32]).length + 2 ≤ _; omega)
        have ha1 : ∀ w, (Op.stringOp .add (⟨(rep k [125, 32]).toArray⟩ : ByteArray) ⟨([125, 32] : List UInt8).toArray⟩).run Tryd.prog w = .ok (.string (⟨(rep (k + 1) [125, 32]).toArray⟩ : ByteArray)) w := fun w => add_bytes w (rep_succ k [125, 32]).symm (by have := rep_le k n [125, 32] hk hn2 (by decide); show (rep k [125, 32]).length + 2 ≤ _; omega)
        obtain ⟨TY0, hTY0⟩ : ∃ TY, TY = (⟨(rep (k + 1) [123, 32]).toArray⟩ : ByteArray) := ⟨_, rfl⟩
        rw [← hTY0] at ha0
        replace hTY0 := hide hTY0
        generalize (⟨(rep k [123, 32]).toArray⟩ : ByteArray) = TX0 at *
        obtain ⟨TY1, hTY1⟩ : ∃ TY, TY = (⟨(rep (k + 1) [125, 32]).toArray⟩ : ByteArray) := ⟨_, rfl⟩
        rw [← hTY1] at ha1
        replace hTY1 := hide hTY1
        generalize (⟨(rep k [125, 32]).toArray⟩ : ByteArray) = TX1 at *
        clear C2 C3 hG
        go_wp2_with fail
        go_roundw
        case rel => exact ⟨trivial, k + 1, by omega, by first | rfl | go_num, by rw [unhide hTY0], by rw [unhide hTY1]⟩
        case measure => exact dec_1 hlt
      obtain rfl : n = k := by omega
      have hltz : ¬ (n : Int) < (n : Int) := by omega
      clear hlt hk
      have hr0 := rep_le n n [123, 32] (Nat.le_refl _) hn2 (by decide)
      have hr1 := rep_le n n [125, 32] (Nat.le_refl _) hn2 (by decide)
      have hc0 : ∀ w, (Op.stringOp .add (⟨List.toArray [102, 117, 110, 99, 32, 109, 97, 105, 110, 40, 41, 32]⟩ : ByteArray) ⟨List.toArray (rep n [123, 32])⟩).run Tryd.prog w = .ok (.string (⟨List.toArray ([102, 117, 110, 99, 32, 109, 97, 105, 110, 40, 41, 32] ++ (rep n [123, 32]))⟩ : ByteArray)) w := fun w => add_bytes w rfl (by simp only [List.length_cons, List.length_nil]; omega)
      have hc1 : ∀ w, (Op.stringOp .add (⟨List.toArray ([102, 117, 110, 99, 32, 109, 97, 105, 110, 40, 41, 32] ++ (rep n [123, 32]))⟩ : ByteArray) ⟨List.toArray (rep n [125, 32])⟩).run Tryd.prog w = .ok (.string (⟨List.toArray (nxB n)⟩ : ByteArray)) w := fun w => add_bytes w rfl (by simp only [List.length_append, List.length_cons, List.length_nil]; omega)
      generalize (⟨List.toArray ([102, 117, 110, 99, 32, 109, 97, 105, 110, 40, 41, 32] ++ (rep n [123, 32]))⟩ : ByteArray) = B_0 at *
      generalize (⟨List.toArray (nxB n)⟩ : ByteArray) = B_1 at *
      generalize (⟨List.toArray (rep n [123, 32])⟩ : ByteArray) = B_2 at *
      generalize (⟨List.toArray (rep n [125, 32])⟩ : ByteArray) = B_3 at *
      clear hr0 hr1
      go_wp2_with fail
      refine (unhide C2 wz (unhide hG)).mono ?_
      rintro e w4 ⟨g4, k4, x4, a4, p4, ao4, n4, c4, rfl⟩
      replace hG := hide ((unhide hG).trans (g4.more (.cells #[.string ⟨k4.toArray⟩, .string ⟨x4.toArray⟩, .int .i64 a4, .slice ao4 n4 c4] 25)))
      clear C2 g4
      go_wp2_with fail
      generalize w4.alloc (.cells #[.string ⟨k4.toArray⟩, .string ⟨x4.toArray⟩, .int .i64 a4, .slice ao4 n4 c4] 25) = wz at *
      go_loopw [22, 23] (fun s0 i wr => wr = wz ∧ ∃ k : Nat, k ≤ n ∧ i = .int .i64 (k : Int) ∧ s0 = .string ⟨(rep k [91, 93]).toArray⟩) (fun _ i _ => n - (intOf i).toNat)
      case atStart => exact ⟨rfl, 0, by omega, rfl, rfl⟩
      case round =>
        obtain ⟨hwz, k, hk, rfl, rfl⟩ := hrel
        obtain rfl : wz = wr := hwz.symm
        clear hwz
        by_cases hlt : k < n
        · have hltz : (k : Int) < (n : Int) := by omega
          have hkz : (k : Int) ≤ 80 := by omega
          have ha0 : ∀ w, (Op.stringOp .add (⟨(rep k [91, 93]).toArray⟩ : ByteArray) ⟨([91, 93] : List UInt8).toArray⟩).run Tryd.prog w = .ok (.string (⟨(rep (k + 1) [91, 93]).toArray⟩ : ByteArray)) w := fun w => add_bytes w (rep_succ k [91, 93]).symm (by have := rep_le k n [91, 93] hk hn2 (by decide); show (rep k [91, 93]).length + 2 ≤ _; omega)
          obtain ⟨TY0, hTY0⟩ : ∃ TY, TY = (⟨(rep (k + 1) [91, 93]).toArray⟩ : ByteArray) := ⟨_, rfl⟩
          rw [← hTY0] at ha0
          replace hTY0 := hide hTY0
          generalize (⟨(rep k [91, 93]).toArray⟩ : ByteArray) = TX0 at *
          clear C3 hG
          go_wp2_with fail
          go_roundw
          case rel => exact ⟨trivial, k + 1, by omega, by first | rfl | go_num, by rw [unhide hTY0]⟩
          case measure => exact dec_1 hlt
        obtain rfl : n = k := by omega
        have hltz : ¬ (n : Int) < (n : Int) := by omega
        clear hlt hk
        have hr0 := rep_le n n [91, 93] (Nat.le_refl _) hn2 (by decide)
        have hc0 : ∀ w, (Op.stringOp .add (⟨List.toArray [118, 97, 114, 32, 120, 32]⟩ : ByteArray) ⟨List.toArray (rep n [91, 93])⟩).run Tryd.prog w = .ok (.string (⟨List.toArray ([118, 97, 114, 32, 120, 32] ++ (rep n [91, 93]))⟩ : ByteArray)) w := fun w => add_bytes w rfl (by simp only [List.length_cons, List.length_nil]; omega)
        have hc1 : ∀ w, (Op.stringOp .add (⟨List.toArray ([118, 97, 114, 32, 120, 32] ++ (rep n [91, 93]))⟩ : ByteArray) ⟨List.toArray [105, 110, 116, 59]⟩).run Tryd.prog w = .ok (.string (⟨List.toArray (nxL n)⟩ : ByteArray)) w := fun w => add_bytes w rfl (by simp only [List.length_append, List.length_cons, List.length_nil]; omega)
        generalize (⟨List.toArray ([118, 97, 114, 32, 120, 32] ++ (rep n [91, 93]))⟩ : ByteArray) = B_0 at *
        generalize (⟨List.toArray (nxL n)⟩ : ByteArray) = B_1 at *
        generalize (⟨List.toArray (rep n [91, 93])⟩ : ByteArray) = B_2 at *
        clear hr0
        go_wp2_with fail
        refine (unhide C3 wz (unhide hG)).mono ?_
        rintro e w5 ⟨g5, k5, x5, a5, p5, ao5, n5, c5, rfl⟩
        replace hG := hide ((unhide hG).trans (g5.more (.cells #[.string ⟨k5.toArray⟩, .string ⟨x5.toArray⟩, .int .i64 a5, .slice ao5 n5 c5] 25)))
        clear C3 g5
        go_wp2_with fail
        go_ret
        exact ⟨rfl, unhide hG⟩
set_option maxHeartbeats 8000000 in
theorem nests_1_2 (n : Nat) (how : Int) (hn1 : 1 ≤ n) (hn2 : n ≤ 80) (hb : bits .and .i64 how 3 = 1) (hr : 60 < n) (W : World) (hE : EvAt W) (hT : SpAt W) : Calls Tryd.prog 4 #[.int .i64 (n : Int), .int .i64 how] W fun e w' => e = .returned (.bool true) ∧ G W w' := by
  have AW := hide (awake_any W hE hT)
  have C1 := hide fun w1 (g : G W w1) => parse_er (L := nxE [45] [] n) (by have := nxE_len [45] [] n (by decide) (by decide) hn2; omega) (hE.g g) (hT.g g) (er := 2) (by rw [fin_80 (p := fun n => (textP (nxE [45] [] n)).2.2 = if 59 < n then 2 else 0) nx_e1 n hn1 hn2]; rw [if_pos (by omega)])
  have C2 := hide fun w1 (g : G W w1) => parse_er (L := nxB n) (by have := nxB_len n hn2; omega) (hE.g g) (hT.g g) (er := 2) (by rw [fin_80 (p := fun n => (textP (nxB n)).2.2 = if 60 < n then 2 else 0) nx_b n hn1 hn2]; rw [if_pos (by omega)])
  have C3 := hide fun w1 (g : G W w1) => parse_er (L := nxL n) (by have := nxL_len n hn2; omega) (hE.g g) (hT.g g) (er := 2) (by rw [fin_80 (p := fun n => (textP (nxL n)).2.2 = if 59 < n then 2 else 0) nx_l n hn1 hn2]; rw [if_pos (by omega)])
  have n1 : ¬ (n : Int) < 1 := by omega
  have n80 : ¬ (80 : Int) < (n : Int) := by omega
  have n59 : (59 : Int) < (n : Int) := by omega
  have n60 : (60 : Int) < (n : Int) := by omega
  clear hE hT hr
  go_enter Tryd.func4, Tryd.ntmps4
  go_wp2_with fail
  refine (unhide AW).mono ?_
  rintro e wz ⟨rfl, g1⟩
  have hG := hide g1
  clear AW g1
  go_wp2_with fail
  go_loopw [8, 9, 10] (fun s0 s1 i wr => wr = wz ∧ ∃ k : Nat, k ≤ n ∧ i = .int .i64 (k : Int) ∧ s0 = .string ⟨(rep k [45]).toArray⟩ ∧ s1 = .string ⟨(rep k []).toArray⟩) (fun _ _ i _ => n - (intOf i).toNat)
  case atStart => exact ⟨rfl, 0, by omega, rfl, rfl, rfl⟩
  case round =>
    obtain ⟨hwz, k, hk, rfl, rfl, rfl⟩ := hrel
    obtain rfl : wz = wr := hwz.symm
    clear hwz
    by_cases hlt : k < n
    · have hltz : (k : Int) < (n : Int) := by omega
      have hkz : (k : Int) ≤ 80 := by omega
      have ha0 : ∀ w, (Op.stringOp .add (⟨(rep k [45]).toArray⟩ : ByteArray) ⟨([45] : List UInt8).toArray⟩).run Tryd.prog w = .ok (.string (⟨(rep (k + 1) [45]).toArray⟩ : ByteArray)) w := fun w => add_bytes w (rep_succ k [45]).symm (by have := rep_le k n [45] hk hn2 (by decide); show (rep k [45]).length + 1 ≤ _; omega)
      have ha1 : ∀ w, (Op.stringOp .add (⟨(rep k []).toArray⟩ : ByteArray) ⟨([] : List UInt8).toArray⟩).run Tryd.prog w = .ok (.string (⟨(rep (k + 1) []).toArray⟩ : ByteArray)) w := fun w => add_bytes w (rep_succ k []).symm (by have := rep_le k n [] hk hn2 (by decide); show (rep k []).length + 0 ≤ _; omega)
      obtain ⟨TY0, hTY0⟩ : ∃ TY, TY = (⟨(rep (k + 1) [45]).toArray⟩ : ByteArray) := ⟨_, rfl⟩
      rw [← hTY0] at ha0
      replace hTY0 := hide hTY0
      generalize (⟨(rep k [45]).toArray⟩ : ByteArray) = TX0 at *
      obtain ⟨TY1, hTY1⟩ : ∃ TY, TY = (⟨(rep (k + 1) []).toArray⟩ : ByteArray) := ⟨_, rfl⟩
      rw [← hTY1] at ha1
      replace hTY1 := hide hTY1
      generalize (⟨(rep k []).toArray⟩ : ByteArray) = TX1 at *
      clear C1 C2 C3 hG
      go_wp2_with fail
      go_roundw
      case rel => exact ⟨trivial, k + 1, by omega, by first | rfl | go_num, by rw [unhide hTY0], by rw [unhide hTY1]⟩
      case measure => exact dec_1 hlt
    obtain rfl : n = k := by omega
    have hltz : ¬ (n : Int) < (n : Int) := by omega
    clear hlt hk
    have hr0 := rep_le n n [45] (Nat.le_refl _) hn2 (by decide)
    have hr1 := rep_le n n [] (Nat.le_refl _) hn2 (by decide)
    have hc0 : ∀ w, (Op.stringOp .add (⟨List.toArray [102, 117, 110, 99, 32, 109, 97, 105, 110, 40, 41, 32, 123, 32, 112, 114, 105, 110, 116, 32]⟩ : ByteArray) ⟨List.toArray (rep n [45])⟩).run Tryd.prog w = .ok (.string (⟨List.toArray ([102, 117, 110, 99, 32, 109, 97, 105, 110, 40, 41, 32, 123, 32, 112, 114, 105, 110, 116, 32] ++ (rep n [45]))⟩ : ByteArray)) w := fun w => add_bytes w rfl (by simp only [List.length_cons, List.length_nil]; omega)
    have hc1 : ∀ w, (Op.stringOp .add (⟨List.toArray ([102, 117, 110, 99, 32, 109, 97, 105, 110, 40, 41, 32, 123, 32, 112, 114, 105, 110, 116, 32] ++ (rep n [45]))⟩ : ByteArray) ⟨List.toArray [49]⟩).run Tryd.prog w = .ok (.string (⟨List.toArray (([102, 117, 110, 99, 32, 109, 97, 105, 110, 40, 41, 32, 123, 32, 112, 114, 105, 110, 116, 32] ++ (rep n [45])) ++ [49])⟩ : ByteArray)) w := fun w => add_bytes w rfl (by simp only [List.length_append, List.length_cons, List.length_nil]; omega)
    have hc2 : ∀ w, (Op.stringOp .add (⟨List.toArray (([102, 117, 110, 99, 32, 109, 97, 105, 110, 40, 41, 32, 123, 32, 112, 114, 105, 110, 116, 32] ++ (rep n [45])) ++ [49])⟩ : ByteArray) ⟨List.toArray (rep n [])⟩).run Tryd.prog w = .ok (.string (⟨List.toArray ((([102, 117, 110, 99, 32, 109, 97, 105, 110, 40, 41, 32, 123, 32, 112, 114, 105, 110, 116, 32] ++ (rep n [45])) ++ [49]) ++ (rep n []))⟩ : ByteArray)) w := fun w => add_bytes w rfl (by simp only [List.length_append, List.length_cons, List.length_nil]; omega)
    have hc3 : ∀ w, (Op.stringOp .add (⟨List.toArray ((([102, 117, 110, 99, 32, 109, 97, 105, 110, 40, 41, 32, 123, 32, 112, 114, 105, 110, 116, 32] ++ (rep n [45])) ++ [49]) ++ (rep n []))⟩ : ByteArray) ⟨List.toArray [59, 32, 125]⟩).run Tryd.prog w = .ok (.string (⟨List.toArray (nxE [45] [] n)⟩ : ByteArray)) w := fun w => add_bytes w rfl (by simp only [List.length_append, List.length_cons, List.length_nil]; omega)
    generalize (⟨List.toArray ([102, 117, 110, 99, 32, 109, 97, 105, 110, 40, 41, 32, 123, 32, 112, 114, 105, 110, 116, 32] ++ (rep n [45]))⟩ : ByteArray) = B_0 at *
    generalize (⟨List.toArray (([102, 117, 110, 99, 32, 109, 97, 105, 110, 40, 41, 32, 123, 32, 112, 114, 105, 110, 116, 32] ++ (rep n [45])) ++ [49])⟩ : ByteArray) = B_1 at *
    generalize (⟨List.toArray ((([102, 117, 110, 99, 32, 109, 97, 105, 110, 40, 41, 32, 123, 32, 112, 114, 105, 110, 116, 32] ++ (rep n [45])) ++ [49]) ++ (rep n []))⟩ : ByteArray) = B_2 at *
    generalize (⟨List.toArray (nxE [45] [] n)⟩ : ByteArray) = B_3 at *
    generalize (⟨List.toArray (rep n [45])⟩ : ByteArray) = B_4 at *
    generalize (⟨List.toArray (rep n [])⟩ : ByteArray) = B_5 at *
    clear hr0 hr1
    go_wp2_with fail
    refine (unhide C1 wz (unhide hG)).mono ?_
    rintro e w3 ⟨g3, k3, x3, a3, p3, ao3, n3, c3, rfl⟩
    replace hG := hide ((unhide hG).trans (g3.more (.cells #[.string ⟨k3.toArray⟩, .string ⟨x3.toArray⟩, .int .i64 a3, .slice ao3 n3 c3] 25)))
    clear C1 g3
    go_wp2_with fail
    generalize w3.alloc (.cells #[.string ⟨k3.toArray⟩, .string ⟨x3.toArray⟩, .int .i64 a3, .slice ao3 n3 c3] 25) = wz at *
    go_loopw [15, 16, 17] (fun s0 s1 i wr => wr = wz ∧ ∃ k : Nat, k ≤ n ∧ i = .int .i64 (k : Int) ∧ s0 = .string ⟨(rep k [123, 32]).toArray⟩ ∧ s1 = .string ⟨(rep k [125, 32]).toArray⟩) (fun _ _ i _ => n - (intOf i).toNat)
    case atStart => exact ⟨rfl, 0, by omega, rfl, rfl, rfl⟩
    case round =>
      obtain ⟨hwz, k, hk, rfl, rfl, rfl⟩ := hrel
      obtain rfl : wz = wr := hwz.symm
      clear hwz
      by_cases hlt : k < n
      · have hltz : (k : Int) < (n : Int) := by omega
        have hkz : (k : Int) ≤ 80 := by omega
        have ha0 : ∀ w, (Op.stringOp .add (⟨(rep k [123, 32]).toArray⟩ : ByteArray) ⟨([123, 32] : List UInt8).toArray⟩).run Tryd.prog w = .ok (.string (⟨(rep (k + 1) [123, 32]).toArray⟩ : ByteArray)) w := fun w => add_bytes w (rep_succ k [123, 32]).symm (by have := rep_le k n [123, 32] hk hn2 (by decide); show (rep k [123, 32]).length + 2 ≤ _; omega)
        have ha1 : ∀ w, (Op.stringOp .add (⟨(rep k [125, 32]).toArray⟩ : ByteArray) ⟨([125, 32] : List UInt8).toArray⟩).run Tryd.prog w = .ok (.string (⟨(rep (k + 1) [125, 32]).toArray⟩ : ByteArray)) w := fun w => add_bytes w (rep_succ k [125, 32]).symm (by have := rep_le k n [125, 32] hk hn2 (by decide); show (rep k [125, 32]).length + 2 ≤ _; omega)
        obtain ⟨TY0, hTY0⟩ : ∃ TY, TY = (⟨(rep (k + 1) [123, 32]).toArray⟩ : ByteArray) := ⟨_, rfl⟩
        rw [← hTY0] at ha0
        replace hTY0 := hide hTY0
        generalize (⟨(rep k [123, 32]).toArray⟩ : ByteArray) = TX0 at *
        obtain ⟨TY1, hTY1⟩ : ∃ TY, TY = (⟨(rep (k + 1) [125, 32]).toArray⟩ : ByteArray) := ⟨_, rfl⟩
        rw [← hTY1] at ha1
        replace hTY1 := hide hTY1
        generalize (⟨(rep k [125, 32]).toArray⟩ : ByteArray) = TX1 at *
        clear C2 C3 hG
        go_wp2_with fail
        go_roundw
        case rel => exact ⟨trivial, k + 1, by omega, by first | rfl | go_num, by rw [unhide hTY0], by rw [unhide hTY1]⟩
        case measure => exact dec_1 hlt
      obtain rfl : n = k := by omega
      have hltz : ¬ (n : Int) < (n : Int) := by omega
      clear hlt hk
      have hr0 := rep_le n n [123, 32] (Nat.le_refl _) hn2 (by decide)
      have hr1 := rep_le n n [125, 32] (Nat.le_refl _) hn2 (by decide)
      have hc0 : ∀ w, (Op.stringOp .add (⟨List.toArray [102, 117, 110, 99, 32, 109, 97, 105, 110, 40, 41, 32]⟩ : ByteArray) ⟨List.toArray (rep n [123, 32])⟩).run Tryd.prog w = .ok (.string (⟨List.toArray ([102, 117, 110, 99, 32, 109, 97, 105, 110, 40, 41, 32] ++ (rep n [123, 32]))⟩ : ByteArray)) w := fun w => add_bytes w rfl (by simp only [List.length_cons, List.length_nil]; omega)
      have hc1 : ∀ w, (Op.stringOp .add (⟨List.toArray ([102, 117, 110, 99, 32, 109, 97, 105, 110, 40, 41, 32] ++ (rep n [123, 32]))⟩ : ByteArray) ⟨List.toArray (rep n [125, 32])⟩).run Tryd.prog w = .ok (.string (⟨List.toArray (nxB n)⟩ : ByteArray)) w := fun w => add_bytes w rfl (by simp only [List.length_append, List.length_cons, List.length_nil]; omega)
      generalize (⟨List.toArray ([102, 117, 110, 99, 32, 109, 97, 105, 110, 40, 41, 32] ++ (rep n [123, 32]))⟩ : ByteArray) = B_0 at *
      generalize (⟨List.toArray (nxB n)⟩ : ByteArray) = B_1 at *
      generalize (⟨List.toArray (rep n [123, 32])⟩ : ByteArray) = B_2 at *
      generalize (⟨List.toArray (rep n [125, 32])⟩ : ByteArray) = B_3 at *
      clear hr0 hr1
      go_wp2_with fail
      refine (unhide C2 wz (unhide hG)).mono ?_
      rintro e w4 ⟨g4, k4, x4, a4, p4, ao4, n4, c4, rfl⟩
      replace hG := hide ((unhide hG).trans (g4.more (.cells #[.string ⟨k4.toArray⟩, .string ⟨x4.toArray⟩, .int .i64 a4, .slice ao4 n4 c4] 25)))
      clear C2 g4
      go_wp2_with fail
      generalize w4.alloc (.cells #[.string ⟨k4.toArray⟩, .string ⟨x4.toArray⟩, .int .i64 a4, .slice ao4 n4 c4] 25) = wz at *
      go_loopw [22, 23] (fun s0 i wr => wr = wz ∧ ∃ k : Nat, k ≤ n ∧ i = .int .i64 (k : Int) ∧ s0 = .string ⟨(rep k [91, 93]).toArray⟩) (fun _ i _ => n - (intOf i).toNat)
      case atStart => exact ⟨rfl, 0, by omega, rfl, rfl⟩
      case round =>
        obtain ⟨hwz, k, hk, rfl, rfl⟩ := hrel
        obtain rfl : wz = wr := hwz.symm
        clear hwz
        by_cases hlt : k < n
        · have hltz : (k : Int) < (n : Int) := by omega
          have hkz : (k : Int) ≤ 80 := by omega
          have ha0 : ∀ w, (Op.stringOp .add (⟨(rep k [91, 93]).toArray⟩ : ByteArray) ⟨([91, 93] : List UInt8).toArray⟩).run Tryd.prog w = .ok (.string (⟨(rep (k + 1) [91, 93]).toArray⟩ : ByteArray)) w := fun w => add_bytes w (rep_succ k [91, 93]).symm (by have := rep_le k n [91, 93] hk hn2 (by decide); show (rep k [91, 93]).length + 2 ≤ _; omega)
          obtain ⟨TY0, hTY0⟩ : ∃ TY, TY = (⟨(rep (k + 1) [91, 93]).toArray⟩ : ByteArray) := ⟨_, rfl⟩
          rw [← hTY0] at ha0
          replace hTY0 := hide hTY0
          generalize (⟨(rep k [91, 93]).toArray⟩ : ByteArray) = TX0 at *
          clear C3 hG
          go_wp2_with fail
          go_roundw
          case rel => exact ⟨trivial, k + 1, by omega, by first | rfl | go_num, by rw [unhide hTY0]⟩
          case measure => exact dec_1 hlt
        obtain rfl : n = k := by omega
        have hltz : ¬ (n : Int) < (n : Int) := by omega
        clear hlt hk
        have hr0 := rep_le n n [91, 93] (Nat.le_refl _) hn2 (by decide)
        have hc0 : ∀ w, (Op.stringOp .add (⟨List.toArray [118, 97, 114, 32, 120, 32]⟩ : ByteArray) ⟨List.toArray (rep n [91, 93])⟩).run Tryd.prog w = .ok (.string (⟨List.toArray ([118, 97, 114, 32, 120, 32] ++ (rep n [91, 93]))⟩ : ByteArray)) w := fun w => add_bytes w rfl (by simp only [List.length_cons, List.length_nil]; omega)
        have hc1 : ∀ w, (Op.stringOp .add (⟨List.toArray ([118, 97, 114, 32, 120, 32] ++ (rep n [91, 93]))⟩ : ByteArray) ⟨List.toArray [105, 110, 116, 59]⟩).run Tryd.prog w = .ok (.string (⟨List.toArray (nxL n)⟩ : ByteArray)) w := fun w => add_bytes w rfl (by simp only [List.length_append, List.length_cons, List.length_nil]; omega)
        generalize (⟨List.toArray ([118, 97, 114, 32, 120, 32] ++ (rep n [91, 93]))⟩ : ByteArray) = B_0 at *
        generalize (⟨List.toArray (nxL n)⟩ : ByteArray) = B_1 at *
        generalize (⟨List.toArray (rep n [91, 93])⟩ : ByteArray) = B_2 at *
        clear hr0
        go_wp2_with fail
        refine (unhide C3 wz (unhide hG)).mono ?_
        rintro e w5 ⟨g5, k5, x5, a5, p5, ao5, n5, c5, rfl⟩
        replace hG := hide ((unhide hG).trans (g5.more (.cells #[.string ⟨k5.toArray⟩, .string ⟨x5.toArray⟩, .int .i64 a5, .slice ao5 n5 c5] 25)))
        clear C3 g5
        go_wp2_with fail
        go_ret
        exact ⟨rfl, unhide hG⟩
end Go.Proofs.YtablincnlfbjnaaDoor

/- ParseNests of gantlinelaw21: the walk (laid by py/pans.py). -/
namespace Go.Proofs.YtablincnlfbjnaaDoor
set_option maxRecDepth 100000
open Go.RowKit Go.Maps Go.ChangeShapes Go.WideShapes Go.ChangeAt Go.Deep

set_option maxHeartbeats 8000000 in
theorem nests_2_0 (n : Nat) (how : Int) (hn1 : 1 ≤ n) (hn2 : n ≤ 80) (hb : bits .and .i64 how 3 = 2) (hr : n ≤ 59) (W : World) (hE : EvAt W) (hT : SpAt W) : Calls Tryd.prog 4 #[.int .i64 (n : Int), .int .i64 how] W fun e w' => e = .returned (.bool true) ∧ G W w' := by
  have AW := hide (awake_any W hE hT)
  have C1 := hide fun w1 (g : G W w1) => parse_er (L := nxE [120, 91] [93] n) (by have := nxE_len [120, 91] [93] n (by decide) (by decide) hn2; omega) (hE.g g) (hT.g g) (er := 0) (by rw [fin_80 (p := fun n => (textP (nxE [120, 91] [93] n)).2.2 = if 59 < n then 2 else 0) nx_e2 n hn1 hn2]; rw [if_neg (by omega)])
  have C2 := hide fun w1 (g : G W w1) => parse_er (L := nxB n) (by have := nxB_len n hn2; omega) (hE.g g) (hT.g g) (er := 0) (by rw [fin_80 (p := fun n => (textP (nxB n)).2.2 = if 60 < n then 2 else 0) nx_b n hn1 hn2]; rw [if_neg (by omega)])
  have C3 := hide fun w1 (g : G W w1) => parse_er (L := nxL n) (by have := nxL_len n hn2; omega) (hE.g g) (hT.g g) (er := 0) (by rw [fin_80 (p := fun n => (textP (nxL n)).2.2 = if 59 < n then 2 else 0) nx_l n hn1 hn2]; rw [if_neg (by omega)])
  have n1 : ¬ (n : Int) < 1 := by omega
  have n80 : ¬ (80 : Int) < (n : Int) := by omega
  have n59 : ¬ (59 : Int) < (n : Int) := by omega
  have n60 : ¬ (60 : Int) < (n : Int) := by omega
  clear hE hT hr
  go_enter Tryd.func4, Tryd.ntmps4
  go_wp2_with fail
  refine (unhide AW).mono ?_
  rintro e wz ⟨rfl, g1⟩
  have hG := hide g1
  clear AW g1
  go_wp2_with fail
  go_loopw [8, 9, 10] (fun s0 s1 i wr => wr = wz ∧ ∃ k : Nat, k ≤ n ∧ i = .int .i64 (k : Int) ∧ s0 = .string ⟨(rep k [120, 91]).toArray⟩ ∧ s1 = .string ⟨(rep k [93]).toArray⟩) (fun _ _ i _ => n - (intOf i).toNat)
  case atStart => exact ⟨rfl, 0, by omega, rfl, rfl, rfl⟩
  case round =>
    obtain ⟨hwz, k, hk, rfl, rfl, rfl⟩ := hrel
    obtain rfl : wz = wr := hwz.symm
    clear hwz
    by_cases hlt : k < n
    · have hltz : (k : Int) < (n : Int) := by omega
      have hkz : (k : Int) ≤ 80 := by omega
      have ha0 : ∀ w, (Op.stringOp .add (⟨(rep k [120, 91]).toArray⟩ : ByteArray) ⟨([120, 91] : List UInt8).toArray⟩).run Tryd.prog w = .ok (.string (⟨(rep (k + 1) [120, 91]).toArray⟩ : ByteArray)) w := fun w => add_bytes w (rep_succ k [120, 91]).symm (by have := rep_le k n [120, 91] hk hn2 (by decide); show (rep k [120, 91]).length + 2 ≤ _; omega)
      have ha1 : ∀ w, (Op.stringOp .add (⟨(rep k [93]).toArray⟩ : ByteArray) ⟨([93] : List UInt8).toArray⟩).run Tryd.prog w = .ok (.string (⟨(rep (k + 1) [93]).toArray⟩ : ByteArray)) w := fun w => add_bytes w (rep_succ k [93]).symm (by have := rep_le k n [93] hk hn2 (by decide); show (rep k [93]).length + 1 ≤ _; omega)
      obtain ⟨TY0, hTY0⟩ : ∃ TY, TY = (⟨(rep (k + 1) [120, 91]).toArray⟩ : ByteArray) := ⟨_, rfl⟩
      rw [← hTY0] at ha0
      replace hTY0 := hide hTY0
      generalize (⟨(rep k [120, 91]).toArray⟩ : ByteArray) = TX0 at *
      obtain ⟨TY1, hTY1⟩ : ∃ TY, TY = (⟨(rep (k + 1) [93]).toArray⟩ : ByteArray) := ⟨_, rfl⟩
      rw [← hTY1] at ha1
      replace hTY1 := hide hTY1
      generalize (⟨(rep k [93]).toArray⟩ : ByteArray) = TX1 at *
      clear C1 C2 C3 hG
      go_wp2_with fail
      go_roundw
      case rel => exact ⟨trivial, k + 1, by omega, by first | rfl | go_num, by rw [unhide hTY0], by rw [unhide hTY1]⟩
      case measure => exact dec_1 hlt
    obtain rfl : n = k := by omega
    have hltz : ¬ (n : Int) < (n : Int) := by omega
    clear hlt hk
    have hr0 := rep_le n n [120, 91] (Nat.le_refl _) hn2 (by decide)
    have hr1 := rep_le n n [93] (Nat.le_refl _) hn2 (by decide)
    have hc0 : ∀ w, (Op.stringOp .add (⟨List.toArray [102, 117, 110, 99, 32, 109, 97, 105, 110, 40, 41, 32, 123, 32, 112, 114, 105, 110, 116, 32]⟩ : ByteArray) ⟨List.toArray (rep n [120, 91])⟩).run Tryd.prog w = .ok (.string (⟨List.toArray ([102, 117, 110, 99, 32, 109, 97, 105, 110, 40, 41, 32, 123, 32, 112, 114, 105, 110, 116, 32] ++ (rep n [120, 91]))⟩ : ByteArray)) w := fun w => add_bytes w rfl (by simp only [List.length_cons, List.length_nil]; omega)
    have hc1 : ∀ w, (Op.stringOp .add (⟨List.toArray ([102, 117, 110, 99, 32, 109, 97, 105, 110, 40, 41, 32, 123, 32, 112, 114, 105, 110, 116, 32] ++ (rep n [120, 91]))⟩ : ByteArray) ⟨List.toArray [49]⟩).run Tryd.prog w = .ok (.string (⟨List.toArray (([102, 117, 110, 99, 32, 109, 97, 105, 110, 40, 41, 32, 123, 32, 112, 114, 105, 110, 116, 32] ++ (rep n [120, 91])) ++ [49])⟩ : ByteArray)) w := fun w => add_bytes w rfl (by simp only [List.length_append, List.length_cons, List.length_nil]; omega)
    have hc2 : ∀ w, (Op.stringOp .add (⟨List.toArray (([102, 117, 110, 99, 32, 109, 97, 105, 110, 40, 41, 32, 123, 32, 112, 114, 105, 110, 116, 32] ++ (rep n [120, 91])) ++ [49])⟩ : ByteArray) ⟨List.toArray (rep n [93])⟩).run Tryd.prog w = .ok (.string (⟨List.toArray ((([102, 117, 110, 99, 32, 109, 97, 105, 110, 40, 41, 32, 123, 32, 112, 114, 105, 110, 116, 32] ++ (rep n [120, 91])) ++ [49]) ++ (rep n [93]))⟩ : ByteArray)) w := fun w => add_bytes w rfl (by simp only [List.length_append, List.length_cons, List.length_nil]; omega)
    have hc3 : ∀ w, (Op.stringOp .add (⟨List.toArray ((([102, 117, 110, 99, 32, 109, 97, 105, 110, 40, 41, 32, 123, 32, 112, 114, 105, 110, 116, 32] ++ (rep n [120, 91])) ++ [49]) ++ (rep n [93]))⟩ : ByteArray) ⟨List.toArray [59, 32, 125]⟩).run Tryd.prog w = .ok (.string (⟨List.toArray (nxE [120, 91] [93] n)⟩ : ByteArray)) w := fun w => add_bytes w rfl (by simp only [List.length_append, List.length_cons, List.length_nil]; omega)
    generalize (⟨List.toArray ([102, 117, 110, 99, 32, 109, 97, 105, 110, 40, 41, 32, 123, 32, 112, 114, 105, 110, 116, 32] ++ (rep n [120, 91]))⟩ : ByteArray) = B_0 at *
    generalize (⟨List.toArray (([102, 117, 110, 99, 32, 109, 97, 105, 110, 40, 41, 32, 123, 32, 112, 114, 105, 110, 116, 32] ++ (rep n [120, 91])) ++ [49])⟩ : ByteArray) = B_1 at *
    generalize (⟨List.toArray ((([102, 117, 110, 99, 32, 109, 97, 105, 110, 40, 41, 32, 123, 32, 112, 114, 105, 110, 116, 32] ++ (rep n [120, 91])) ++ [49]) ++ (rep n [93]))⟩ : ByteArray) = B_2 at *
    generalize (⟨List.toArray (nxE [120, 91] [93] n)⟩ : ByteArray) = B_3 at *
    generalize (⟨List.toArray (rep n [120, 91])⟩ : ByteArray) = B_4 at *
    generalize (⟨List.toArray (rep n [93])⟩ : ByteArray) = B_5 at *
    clear hr0 hr1
    go_wp2_with fail
    refine (unhide C1 wz (unhide hG)).mono ?_
    rintro e w3 ⟨g3, k3, x3, a3, p3, ao3, n3, c3, rfl⟩
    replace hG := hide ((unhide hG).trans (g3.more (.cells #[.string ⟨k3.toArray⟩, .string ⟨x3.toArray⟩, .int .i64 a3, .slice ao3 n3 c3] 25)))
    clear C1 g3
    go_wp2_with fail
    generalize w3.alloc (.cells #[.string ⟨k3.toArray⟩, .string ⟨x3.toArray⟩, .int .i64 a3, .slice ao3 n3 c3] 25) = wz at *
    go_loopw [15, 16, 17] (fun s0 s1 i wr => wr = wz ∧ ∃ k : Nat, k ≤ n ∧ i = .int .i64 (k : Int) ∧ s0 = .string ⟨(rep k [123, 32]).toArray⟩ ∧ s1 = .string ⟨(rep k [125, 32]).toArray⟩) (fun _ _ i _ => n - (intOf i).toNat)
    case atStart => exact ⟨rfl, 0, by omega, rfl, rfl, rfl⟩
    case round =>
      obtain ⟨hwz, k, hk, rfl, rfl, rfl⟩ := hrel
      obtain rfl : wz = wr := hwz.symm
      clear hwz
      by_cases hlt : k < n
      · have hltz : (k : Int) < (n : Int) := by omega
        have hkz : (k : Int) ≤ 80 := by omega
        have ha0 : ∀ w, (Op.stringOp .add (⟨(rep k [123, 32]).toArray⟩ : ByteArray) ⟨([123, 32] : List UInt8).toArray⟩).run Tryd.prog w = .ok (.string (⟨(rep (k + 1) [123, 32]).toArray⟩ : ByteArray)) w := fun w => add_bytes w (rep_succ k [123, 32]).symm (by have := rep_le k n [123, 32] hk hn2 (by decide); show (rep k [123, 32]).length + 2 ≤ _; omega)
        have ha1 : ∀ w, (Op.stringOp .add (⟨(rep k [125, 32]).toArray⟩ : ByteArray) ⟨([125, 32] : List UInt8).toArray⟩).run Tryd.prog w = .ok (.string (⟨(rep (k + 1) [125, 32]).toArray⟩ : ByteArray)) w := fun w => add_bytes w (rep_succ k [125, 32]).symm (by have := rep_le k n [125, 32] hk hn2 (by decide); show (rep k [125, 32]).length + 2 ≤ _; omega)
        obtain ⟨TY0, hTY0⟩ : ∃ TY, TY = (⟨(rep (k + 1) [123, 32]).toArray⟩ : ByteArray) := ⟨_, rfl⟩
        rw [← hTY0] at ha0
        replace hTY0 := hide hTY0
        generalize (⟨(rep k [123, 32]).toArray⟩ : ByteArray) = TX0 at *
        obtain ⟨TY1, hTY1⟩ : ∃ TY, TY = (⟨(rep (k + 1) [125, 32]).toArray⟩ : ByteArray) := ⟨_, rfl⟩
        rw [← hTY1] at ha1
        replace hTY1 := hide hTY1
        generalize (⟨(rep k [125, 32]).toArray⟩ : ByteArray) = TX1 at *
        clear C2 C3 hG
        go_wp2_with fail
        go_roundw
        case rel => exact ⟨trivial, k + 1, by omega, by first | rfl | go_num, by rw [unhide hTY0], by rw [unhide hTY1]⟩
        case measure => exact dec_1 hlt
      obtain rfl : n = k := by omega
      have hltz : ¬ (n : Int) < (n : Int) := by omega
      clear hlt hk
      have hr0 := rep_le n n [123, 32] (Nat.le_refl _) hn2 (by decide)
      have hr1 := rep_le n n [125, 32] (Nat.le_refl _) hn2 (by decide)
      have hc0 : ∀ w, (Op.stringOp .add (⟨List.toArray [102, 117, 110, 99, 32, 109, 97, 105, 110, 40, 41, 32]⟩ : ByteArray) ⟨List.toArray (rep n [123, 32])⟩).run Tryd.prog w = .ok (.string (⟨List.toArray ([102, 117, 110, 99, 32, 109, 97, 105, 110, 40, 41, 32] ++ (rep n [123, 32]))⟩ : ByteArray)) w := fun w => add_bytes w rfl (by simp only [List.length_cons, List.length_nil]; omega)
      have hc1 : ∀ w, (Op.stringOp .add (⟨List.toArray ([102, 117, 110, 99, 32, 109, 97, 105, 110, 40, 41, 32] ++ (rep n [123, 32]))⟩ : ByteArray) ⟨List.toArray (rep n [125, 32])⟩).run Tryd.prog w = .ok (.string (⟨List.toArray (nxB n)⟩ : ByteArray)) w := fun w => add_bytes w rfl (by simp only [List.length_append, List.length_cons, List.length_nil]; omega)
      generalize (⟨List.toArray ([102, 117, 110, 99, 32, 109, 97, 105, 110, 40, 41, 32] ++ (rep n [123, 32]))⟩ : ByteArray) = B_0 at *
      generalize (⟨List.toArray (nxB n)⟩ : ByteArray) = B_1 at *
      generalize (⟨List.toArray (rep n [123, 32])⟩ : ByteArray) = B_2 at *
      generalize (⟨List.toArray (rep n [125, 32])⟩ : ByteArray) = B_3 at *
      clear hr0 hr1
      go_wp2_with fail
      refine (unhide C2 wz (unhide hG)).mono ?_
      rintro e w4 ⟨g4, k4, x4, a4, p4, ao4, n4, c4, rfl⟩
      replace hG := hide ((unhide hG).trans (g4.more (.cells #[.string ⟨k4.toArray⟩, .string ⟨x4.toArray⟩, .int .i64 a4, .slice ao4 n4 c4] 25)))
      clear C2 g4
      go_wp2_with fail
      generalize w4.alloc (.cells #[.string ⟨k4.toArray⟩, .string ⟨x4.toArray⟩, .int .i64 a4, .slice ao4 n4 c4] 25) = wz at *
      go_loopw [22, 23] (fun s0 i wr => wr = wz ∧ ∃ k : Nat, k ≤ n ∧ i = .int .i64 (k : Int) ∧ s0 = .string ⟨(rep k [91, 93]).toArray⟩) (fun _ i _ => n - (intOf i).toNat)
      case atStart => exact ⟨rfl, 0, by omega, rfl, rfl⟩
      case round =>
        obtain ⟨hwz, k, hk, rfl, rfl⟩ := hrel
        obtain rfl : wz = wr := hwz.symm
        clear hwz
        by_cases hlt : k < n
        · have hltz : (k : Int) < (n : Int) := by omega
          have hkz : (k : Int) ≤ 80 := by omega
          have ha0 : ∀ w, (Op.stringOp .add (⟨(rep k [91, 93]).toArray⟩ : ByteArray) ⟨([91, 93] : List UInt8).toArray⟩).run Tryd.prog w = .ok (.string (⟨(rep (k + 1) [91, 93]).toArray⟩ : ByteArray)) w := fun w => add_bytes w (rep_succ k [91, 93]).symm (by have := rep_le k n [91, 93] hk hn2 (by decide); show (rep k [91, 93]).length + 2 ≤ _; omega)
          obtain ⟨TY0, hTY0⟩ : ∃ TY, TY = (⟨(rep (k + 1) [91, 93]).toArray⟩ : ByteArray) := ⟨_, rfl⟩
          rw [← hTY0] at ha0
          replace hTY0 := hide hTY0
          generalize (⟨(rep k [91, 93]).toArray⟩ : ByteArray) = TX0 at *
          clear C3 hG
          go_wp2_with fail
          go_roundw
          case rel => exact ⟨trivial, k + 1, by omega, by first | rfl | go_num, by rw [unhide hTY0]⟩
          case measure => exact dec_1 hlt
        obtain rfl : n = k := by omega
        have hltz : ¬ (n : Int) < (n : Int) := by omega
        clear hlt hk
        have hr0 := rep_le n n [91, 93] (Nat.le_refl _) hn2 (by decide)
        have hc0 : ∀ w, (Op.stringOp .add (⟨List.toArray [118, 97, 114, 32, 120, 32]⟩ : ByteArray) ⟨List.toArray (rep n [91, 93])⟩).run Tryd.prog w = .ok (.string (⟨List.toArray ([118, 97, 114, 32, 120, 32] ++ (rep n [91, 93]))⟩ : ByteArray)) w := fun w => add_bytes w rfl (by simp only [List.length_cons, List.length_nil]; omega)
        have hc1 : ∀ w, (Op.stringOp .add (⟨List.toArray ([118, 97, 114, 32, 120, 32] ++ (rep n [91, 93]))⟩ : ByteArray) ⟨List.toArray [105, 110, 116, 59]⟩).run Tryd.prog w = .ok (.string (⟨List.toArray (nxL n)⟩ : ByteArray)) w := fun w => add_bytes w rfl (by simp only [List.length_append, List.length_cons, List.length_nil]; omega)
        generalize (⟨List.toArray ([118, 97, 114, 32, 120, 32] ++ (rep n [91, 93]))⟩ : ByteArray) = B_0 at *
        generalize (⟨List.toArray (nxL n)⟩ : ByteArray) = B_1 at *
        generalize (⟨List.toArray (rep n [91, 93])⟩ : ByteArray) = B_2 at *
        clear hr0
        go_wp2_with fail
        refine (unhide C3 wz (unhide hG)).mono ?_
        rintro e w5 ⟨g5, k5, x5, a5, p5, ao5, n5, c5, rfl⟩
        replace hG := hide ((unhide hG).trans (g5.more (.cells #[.string ⟨k5.toArray⟩, .string ⟨x5.toArray⟩, .int .i64 a5, .slice ao5 n5 c5] 25)))
        clear C3 g5
        go_wp2_with fail
        go_ret
        exact ⟨rfl, unhide hG⟩
set_option maxHeartbeats 8000000 in
theorem nests_2_1 (n : Nat) (how : Int) (hn1 : 1 ≤ n) (hn2 : n ≤ 80) (hb : bits .and .i64 how 3 = 2) (hr : n = 60) (W : World) (hE : EvAt W) (hT : SpAt W) : Calls Tryd.prog 4 #[.int .i64 (n : Int), .int .i64 how] W fun e w' => e = .returned (.bool true) ∧ G W w' := by
  have AW := hide (awake_any W hE hT)
  have C1 := hide fun w1 (g : G W w1) => parse_er (L := nxE [120, 91] [93] n) (by have := nxE_len [120, 91] [93] n (by decide) (by decide) hn2; omega) (hE.g g) (hT.g g) (er := 2) (by rw [fin_80 (p := fun n => (textP (nxE [120, 91] [93] n)).2.2 = if 59 < n then 2 else 0) nx_e2 n hn1 hn2]; rw [if_pos (by omega)])
  have C2 := hide fun w1 (g : G W w1) => parse_er (L := nxB n) (by have := nxB_len n hn2; omega) (hE.g g) (hT.g g) (er := 0) (by rw [fin_80 (p := fun n => (textP (nxB n)).2.2 = if 60 < n then 2 else 0) nx_b n hn1 hn2]; rw [if_neg (by omega)])
  have C3 := hide fun w1 (g : G W w1) => parse_er (L := nxL n) (by have := nxL_len n hn2; omega) (hE.g g) (hT.g g) (er := 2) (by rw [fin_80 (p := fun n => (textP (nxL n)).2.2 = if 59 < n then 2 else 0) nx_l n hn1 hn2]; rw [if_pos (by omega)])
  have n1 : ¬ (n : Int) < 1 := by omega
  have n80 : ¬ (80 : Int) < (n : Int) := by omega
  have n59 : (59 : Int) < (n : Int) := by omega
  have n60 : ¬ (60 : Int) < (n : Int) := by omega
  clear hE hT hr
  go_enter Tryd.func4, Tryd.ntmps4
  go_wp2_with fail
  refine (unhide AW).mono ?_
  rintro e wz ⟨rfl, g1⟩
  have hG := hide g1
  clear AW g1
  go_wp2_with fail
  go_loopw [8, 9, 10] (fun s0 s1 i wr => wr = wz ∧ ∃ k : Nat, k ≤ n ∧ i = .int .i64 (k : Int) ∧ s0 = .string ⟨(rep k [120, 91]).toArray⟩ ∧ s1 = .string ⟨(rep k [93]).toArray⟩) (fun _ _ i _ => n - (intOf i).toNat)
  case atStart => exact ⟨rfl, 0, by omega, rfl, rfl, rfl⟩
  case round =>
    obtain ⟨hwz, k, hk, rfl, rfl, rfl⟩ := hrel
    obtain rfl : wz = wr := hwz.symm
    clear hwz
    by_cases hlt : k < n
    · have hltz : (k : Int) < (n : Int) := by omega
      have hkz : (k : Int) ≤ 80 := by omega
      have ha0 : ∀ w, (Op.stringOp .add (⟨(rep k [120, 91]).toArray⟩ : ByteArray) ⟨([120, 91] : List UInt8).toArray⟩).run Tryd.prog w = .ok (.string (⟨(rep (k + 1) [120, 91]).toArray⟩ : ByteArray)) w := fun w => add_bytes w (rep_succ k [120, 91]).symm (by have := rep_le k n [120, 91] hk hn2 (by decide); show (rep k [120, 91]).length + 2 ≤ _; omega)
      have ha1 : ∀ w, (Op.stringOp .add (⟨(rep k [93]).toArray⟩ : ByteArray) ⟨([93] : List UInt8).toArray⟩).run Tryd.prog w = .ok (.string (⟨(rep (k + 1) [93]).toArray⟩ : ByteArray)) w := fun w => add_bytes w (rep_succ k [93]).symm (by have := rep_le k n [93] hk hn2 (by decide); show (rep k [93]).length + 1 ≤ _; omega)
      obtain ⟨TY0, hTY0⟩ : ∃ TY, TY = (⟨(rep (k + 1) [120, 91]).toArray⟩ : ByteArray) := ⟨_, rfl⟩
      rw [← hTY0] at ha0
      replace hTY0 := hide hTY0
      generalize (⟨(rep k [120, 91]).toArray⟩ : ByteArray) = TX0 at *
      obtain ⟨TY1, hTY1⟩ : ∃ TY, TY = (⟨(rep (k + 1) [93]).toArray⟩ : ByteArray) := ⟨_, rfl⟩
      rw [← hTY1] at ha1
      replace hTY1 := hide hTY1
      generalize (⟨(rep k [93]).toArray⟩ : ByteArray) = TX1 at *
      clear C1 C2 C3 hG
      go_wp2_with fail
      go_roundw
      case rel => exact ⟨trivial, k + 1, by omega, by first | rfl | go_num, by rw [unhide hTY0], by rw [unhide hTY1]⟩
      case measure => exact dec_1 hlt
    obtain rfl : n = k := by omega
    have hltz : ¬ (n : Int) < (n : Int) := by omega
    clear hlt hk
    have hr0 := rep_le n n [120, 91] (Nat.le_refl _) hn2 (by decide)
    have hr1 := rep_le n n [93] (Nat.le_refl _) hn2 (by decide)
    have hc0 : ∀ w, (Op.stringOp .add (⟨List.toArray [102, 117, 110, 99, 32, 109, 97, 105, 110, 40, 41, 32, 123, 32, 112, 114, 105, 110, 116, 32]⟩ : ByteArray) ⟨List.toArray (rep n [120, 91])⟩).run Tryd.prog w = .ok (.string (⟨List.toArray ([102, 117, 110, 99, 32, 109, 97, 105, 110, 40, 41, 32, 123, 32, 112, 114, 105, 110, 116, 32] ++ (rep n [120, 91]))⟩ : ByteArray)) w := fun w => add_bytes w rfl (by simp only [List.length_cons, List.length_nil]; omega)
    have hc1 : ∀ w, (Op.stringOp .add (⟨List.toArray ([102, 117, 110, 99, 32, 109, 97, 105, 110, 40, 41, 32, 123, 32, 112, 114, 105, 110, 116, 32] ++ (rep n [120, 91]))⟩ : ByteArray) ⟨List.toArray [49]⟩).run Tryd.prog w = .ok (.string (⟨List.toArray (([102, 117, 110, 99, 32, 109, 97, 105, 110, 40, 41, 32, 123, 32, 112, 114, 105, 110, 116, 32] ++ (rep n [120, 91])) ++ [49])⟩ : ByteArray)) w := fun w => add_bytes w rfl (by simp only [List.length_append, List.length_cons, List.length_nil]; omega)
    have hc2 : ∀ w, (Op.stringOp .add (⟨List.toArray (([102, 117, 110, 99, 32, 109, 97, 105, 110, 40, 41, 32, 123, 32, 112, 114, 105, 110, 116, 32] ++ (rep n [120, 91])) ++ [49])⟩ : ByteArray) ⟨List.toArray (rep n [93])⟩).run Tryd.prog w = .ok (.string (⟨List.toArray ((([102, 117, 110, 99, 32, 109, 97, 105, 110, 40, 41, 32, 123, 32, 112, 114, 105, 110, 116, 32] ++ (rep n [120, 91])) ++ [49]) ++ (rep n [93]))⟩ : ByteArray)) w := fun w => add_bytes w rfl (by simp only [List.length_append, List.length_cons, List.length_nil]; omega)
    have hc3 : ∀ w, (Op.stringOp .add (⟨List.toArray ((([102, 117, 110, 99, 32, 109, 97, 105, 110, 40, 41, 32, 123, 32, 112, 114, 105, 110, 116, 32] ++ (rep n [120, 91])) ++ [49]) ++ (rep n [93]))⟩ : ByteArray) ⟨List.toArray [59, 32, 125]⟩).run Tryd.prog w = .ok (.string (⟨List.toArray (nxE [120, 91] [93] n)⟩ : ByteArray)) w := fun w => add_bytes w rfl (by simp only [List.length_append, List.length_cons, List.length_nil]; omega)
    generalize (⟨List.toArray ([102, 117, 110, 99, 32, 109, 97, 105, 110, 40, 41, 32, 123, 32, 112, 114, 105, 110, 116, 32] ++ (rep n [120, 91]))⟩ : ByteArray) = B_0 at *
    generalize (⟨List.toArray (([102, 117, 110, 99, 32, 109, 97, 105, 110, 40, 41, 32, 123, 32, 112, 114, 105, 110, 116, 32] ++ (rep n [120, 91])) ++ [49])⟩ : ByteArray) = B_1 at *
    generalize (⟨List.toArray ((([102, 117, 110, 99, 32, 109, 97, 105, 110, 40, 41, 32, 123, 32, 112, 114, 105, 110, 116, 32] ++ (rep n [120, 91])) ++ [49]) ++ (rep n [93]))⟩ : ByteArray) = B_2 at *
    generalize (⟨List.toArray (nxE [120, 91] [93] n)⟩ : ByteArray) = B_3 at *
    generalize (⟨List.toArray (rep n [120, 91])⟩ : ByteArray) = B_4 at *
    generalize (⟨List.toArray (rep n [93])⟩ : ByteArray) = B_5 at *
    clear hr0 hr1
    go_wp2_with fail
    refine (unhide C1 wz (unhide hG)).mono ?_
    rintro e w3 ⟨g3, k3, x3, a3, p3, ao3, n3, c3, rfl⟩
    replace hG := hide ((unhide hG).trans (g3.more (.cells #[.string ⟨k3.toArray⟩, .string ⟨x3.toArray⟩, .int .i64 a3, .slice ao3 n3 c3] 25)))
    clear C1 g3
    go_wp2_with fail
    generalize w3.alloc (.cells #[.string ⟨k3.toArray⟩, .string ⟨x3.toArray⟩, .int .i64 a3, .slice ao3 n3 c3] 25) = wz at *
    go_loopw [15, 16, 17] (fun s0 s1 i wr => wr = wz ∧ ∃ k : Nat, k ≤ n ∧ i = .int .i64 (k : Int) ∧ s0 = .string ⟨(rep k [123, 32]).toArray⟩ ∧ s1 = .string ⟨(rep k [125, 32]).toArray⟩) (fun _ _ i _ => n - (intOf i).toNat)
    case atStart => exact ⟨rfl, 0, by omega, rfl, rfl, rfl⟩
    case round =>
      obtain ⟨hwz, k, hk, rfl, rfl, rfl⟩ := hrel
      obtain rfl : wz = wr := hwz.symm
      clear hwz
      by_cases hlt : k < n
      · have hltz : (k : Int) < (n : Int) := by omega
        have hkz : (k : Int) ≤ 80 := by omega
        have ha0 : ∀ w, (Op.stringOp .add (⟨(rep k [123, 32]).toArray⟩ : ByteArray) ⟨([123, 32] : List UInt8).toArray⟩).run Tryd.prog w = .ok (.string (⟨(rep (k + 1) [123, 32]).toArray⟩ : ByteArray)) w := fun w => add_bytes w (rep_succ k [123, 32]).symm (by have := rep_le k n [123, 32] hk hn2 (by decide); show (rep k [123, 32]).length + 2 ≤ _; omega)
        have ha1 : ∀ w, (Op.stringOp .add (⟨(rep k [125, 32]).toArray⟩ : ByteArray) ⟨([125, 32] : List UInt8).toArray⟩).run Tryd.prog w = .ok (.string (⟨(rep (k + 1) [125, 32]).toArray⟩ : ByteArray)) w := fun w => add_bytes w (rep_succ k [125, 32]).symm (by have := rep_le k n [125, 32] hk hn2 (by decide); show (rep k [125, 32]).length + 2 ≤ _; omega)
        obtain ⟨TY0, hTY0⟩ : ∃ TY, TY = (⟨(rep (k + 1) [123, 32]).toArray⟩ : ByteArray) := ⟨_, rfl⟩
        rw [← hTY0] at ha0
        replace hTY0 := hide hTY0
        generalize (⟨(rep k [123, 32]).toArray⟩ : ByteArray) = TX0 at *
        obtain ⟨TY1, hTY1⟩ : ∃ TY, TY = (⟨(rep (k + 1) [125, 32]).toArray⟩ : ByteArray) := ⟨_, rfl⟩
        rw [← hTY1] at ha1
        replace hTY1 := hide hTY1
        generalize (⟨(rep k [125, 32]).toArray⟩ : ByteArray) = TX1 at *
        clear C2 C3 hG
        go_wp2_with fail
        go_roundw
        case rel => exact ⟨trivial, k + 1, by omega, by first | rfl | go_num, by rw [unhide hTY0], by rw [unhide hTY1]⟩
        case measure => exact dec_1 hlt
      obtain rfl : n = k := by omega
      have hltz : ¬ (n : Int) < (n : Int) := by omega
      clear hlt hk
      have hr0 := rep_le n n [123, 32] (Nat.le_refl _) hn2 (by decide)
      have hr1 := rep_le n n [125, 32] (Nat.le_refl _) hn2 (by decide)
      have hc0 : ∀ w, (Op.stringOp .add (⟨List.toArray [102, 117, 110, 99, 32, 109, 97, 105, 110, 40, 41, 32]⟩ : ByteArray) ⟨List.toArray (rep n [123, 32])⟩).run Tryd.prog w = .ok (.string (⟨List.toArray ([102, 117, 110, 99, 32, 109, 97, 105, 110, 40, 41, 32] ++ (rep n [123, 32]))⟩ : ByteArray)) w := fun w => add_bytes w rfl (by simp only [List.length_cons, List.length_nil]; omega)
      have hc1 : ∀ w, (Op.stringOp .add (⟨List.toArray ([102, 117, 110, 99, 32, 109, 97, 105, 110, 40, 41, 32] ++ (rep n [123, 32]))⟩ : ByteArray) ⟨List.toArray (rep n [125, 32])⟩).run Tryd.prog w = .ok (.string (⟨List.toArray (nxB n)⟩ : ByteArray)) w := fun w => add_bytes w rfl (by simp only [List.length_append, List.length_cons, List.length_nil]; omega)
      generalize (⟨List.toArray ([102, 117, 110, 99, 32, 109, 97, 105, 110, 40, 41, 32] ++ (rep n [123, 32]))⟩ : ByteArray) = B_0 at *
      generalize (⟨List.toArray (nxB n)⟩ : ByteArray) = B_1 at *
      generalize (⟨List.toArray (rep n [123, 32])⟩ : ByteArray) = B_2 at *
      generalize (⟨List.toArray (rep n [125, 32])⟩ : ByteArray) = B_3 at *
      clear hr0 hr1
      go_wp2_with fail
      refine (unhide C2 wz (unhide hG)).mono ?_
      rintro e w4 ⟨g4, k4, x4, a4, p4, ao4, n4, c4, rfl⟩
      replace hG := hide ((unhide hG).trans (g4.more (.cells #[.string ⟨k4.toArray⟩, .string ⟨x4.toArray⟩, .int .i64 a4, .slice ao4 n4 c4] 25)))
      clear C2 g4
      go_wp2_with fail
      generalize w4.alloc (.cells #[.string ⟨k4.toArray⟩, .string ⟨x4.toArray⟩, .int .i64 a4, .slice ao4 n4 c4] 25) = wz at *
      go_loopw [22, 23] (fun s0 i wr => wr = wz ∧ ∃ k : Nat, k ≤ n ∧ i = .int .i64 (k : Int) ∧ s0 = .string ⟨(rep k [91, 93]).toArray⟩) (fun _ i _ => n - (intOf i).toNat)
      case atStart => exact ⟨rfl, 0, by omega, rfl, rfl⟩
      case round =>
        obtain ⟨hwz, k, hk, rfl, rfl⟩ := hrel
        obtain rfl : wz = wr := hwz.symm
        clear hwz
        by_cases hlt : k < n
        · have hltz : (k : Int) < (n : Int) := by omega
          have hkz : (k : Int) ≤ 80 := by omega
          have ha0 : ∀ w, (Op.stringOp .add (⟨(rep k [91, 93]).toArray⟩ : ByteArray) ⟨([91, 93] : List UInt8).toArray⟩).run Tryd.prog w = .ok (.string (⟨(rep (k + 1) [91, 93]).toArray⟩ : ByteArray)) w := fun w => add_bytes w (rep_succ k [91, 93]).symm (by have := rep_le k n [91, 93] hk hn2 (by decide); show (rep k [91, 93]).length + 2 ≤ _; omega)
          obtain ⟨TY0, hTY0⟩ : ∃ TY, TY = (⟨(rep (k + 1) [91, 93]).toArray⟩ : ByteArray) := ⟨_, rfl⟩
          rw [← hTY0] at ha0
          replace hTY0 := hide hTY0
          generalize (⟨(rep k [91, 93]).toArray⟩ : ByteArray) = TX0 at *
          clear C3 hG
          go_wp2_with fail
          go_roundw
          case rel => exact ⟨trivial, k + 1, by omega, by first | rfl | go_num, by rw [unhide hTY0]⟩
          case measure => exact dec_1 hlt
        obtain rfl : n = k := by omega
        have hltz : ¬ (n : Int) < (n : Int) := by omega
        clear hlt hk
        have hr0 := rep_le n n [91, 93] (Nat.le_refl _) hn2 (by decide)
        have hc0 : ∀ w, (Op.stringOp .add (⟨List.toArray [118, 97, 114, 32, 120, 32]⟩ : ByteArray) ⟨List.toArray (rep n [91, 93])⟩).run Tryd.prog w = .ok (.string (⟨List.toArray ([118, 97, 114, 32, 120, 32] ++ (rep n [91, 93]))⟩ : ByteArray)) w := fun w => add_bytes w rfl (by simp only [List.length_cons, List.length_nil]; omega)
        have hc1 : ∀ w, (Op.stringOp .add (⟨List.toArray ([118, 97, 114, 32, 120, 32] ++ (rep n [91, 93]))⟩ : ByteArray) ⟨List.toArray [105, 110, 116, 59]⟩).run Tryd.prog w = .ok (.string (⟨List.toArray (nxL n)⟩ : ByteArray)) w := fun w => add_bytes w rfl (by simp only [List.length_append, List.length_cons, List.length_nil]; omega)
        generalize (⟨List.toArray ([118, 97, 114, 32, 120, 32] ++ (rep n [91, 93]))⟩ : ByteArray) = B_0 at *
        generalize (⟨List.toArray (nxL n)⟩ : ByteArray) = B_1 at *
        generalize (⟨List.toArray (rep n [91, 93])⟩ : ByteArray) = B_2 at *
        clear hr0
        go_wp2_with fail
        refine (unhide C3 wz (unhide hG)).mono ?_
        rintro e w5 ⟨g5, k5, x5, a5, p5, ao5, n5, c5, rfl⟩
        replace hG := hide ((unhide hG).trans (g5.more (.cells #[.string ⟨k5.toArray⟩, .string ⟨x5.toArray⟩, .int .i64 a5, .slice ao5 n5 c5] 25)))
        clear C3 g5
        go_wp2_with fail
        go_ret
        exact ⟨rfl, unhide hG⟩
set_option maxHeartbeats 8000000 in
theorem nests_2_2 (n : Nat) (how : Int) (hn1 : 1 ≤ n) (hn2 : n ≤ 80) (hb : bits .and .i64 how 3 = 2) (hr : 60 < n) (W : World) (hE : EvAt W) (hT : SpAt W) : Calls Tryd.prog 4 #[.int .i64 (n : Int), .int .i64 how] W fun e w' => e = .returned (.bool true) ∧ G W w' := by
  have AW := hide (awake_any W hE hT)
  have C1 := hide fun w1 (g : G W w1) => parse_er (L := nxE [120, 91] [93] n) (by have := nxE_len [120, 91] [93] n (by decide) (by decide) hn2; omega) (hE.g g) (hT.g g) (er := 2) (by rw [fin_80 (p := fun n => (textP (nxE [120, 91] [93] n)).2.2 = if 59 < n then 2 else 0) nx_e2 n hn1 hn2]; rw [if_pos (by omega)])
  have C2 := hide fun w1 (g : G W w1) => parse_er (L := nxB n) (by have := nxB_len n hn2; omega) (hE.g g) (hT.g g) (er := 2) (by rw [fin_80 (p := fun n => (textP (nxB n)).2.2 = if 60 < n then 2 else 0) nx_b n hn1 hn2]; rw [if_pos (by omega)])
  have C3 := hide fun w1 (g : G W w1) => parse_er (L := nxL n) (by have := nxL_len n hn2; omega) (hE.g g) (hT.g g) (er := 2) (by rw [fin_80 (p := fun n => (textP (nxL n)).2.2 = if 59 < n then 2 else 0) nx_l n hn1 hn2]; rw [if_pos (by omega)])
  have n1 : ¬ (n : Int) < 1 := by omega
  have n80 : ¬ (80 : Int) < (n : Int) := by omega
  have n59 : (59 : Int) < (n : Int) := by omega
  have n60 : (60 : Int) < (n : Int) := by omega
  clear hE hT hr
  go_enter Tryd.func4, Tryd.ntmps4
  go_wp2_with fail
  refine (unhide AW).mono ?_
  rintro e wz ⟨rfl, g1⟩
  have hG := hide g1
  clear AW g1
  go_wp2_with fail
  go_loopw [8, 9, 10] (fun s0 s1 i wr => wr = wz ∧ ∃ k : Nat, k ≤ n ∧ i = .int .i64 (k : Int) ∧ s0 = .string ⟨(rep k [120, 91]).toArray⟩ ∧ s1 = .string ⟨(rep k [93]).toArray⟩) (fun _ _ i _ => n - (intOf i).toNat)
  case atStart => exact ⟨rfl, 0, by omega, rfl, rfl, rfl⟩
  case round =>
    obtain ⟨hwz, k, hk, rfl, rfl, rfl⟩ := hrel
    obtain rfl : wz = wr := hwz.symm
    clear hwz
    by_cases hlt : k < n
    · have hltz : (k : Int) < (n : Int) := by omega
      have hkz : (k : Int) ≤ 80 := by omega
      have ha0 : ∀ w, (Op.stringOp .add (⟨(rep k [120, 91]).toArray⟩ : ByteArray) ⟨([120, 91] : List UInt8).toArray⟩).run Tryd.prog w = .ok (.string (⟨(rep (k + 1) [120, 91]).toArray⟩ : ByteArray)) w := fun w => add_bytes w (rep_succ k [120, 91]).symm (by have := rep_le k n [120, 91] hk hn2 (by decide); show (rep k [120, 91]).length + 2 ≤ _; omega)
      have ha1 : ∀ w, (Op.stringOp .add (⟨(rep k [93]).toArray⟩ : ByteArray) ⟨([93] : List UInt8).toArray⟩).run Tryd.prog w = .ok (.string (⟨(rep (k + 1) [93]).toArray⟩ : ByteArray)) w := fun w => add_bytes w (rep_succ k [93]).symm (by have := rep_le k n [93] hk hn2 (by decide); show (rep k [93]).length + 1 ≤ _; omega)
      obtain ⟨TY0, hTY0⟩ : ∃ TY, TY = (⟨(rep (k + 1) [120, 91]).toArray⟩ : ByteArray) := ⟨_, rfl⟩
      rw [← hTY0] at ha0
      replace hTY0 := hide hTY0
      generalize (⟨(rep k [120, 91]).toArray⟩ : ByteArray) = TX0 at *
      obtain ⟨TY1, hTY1⟩ : ∃ TY, TY = (⟨(rep (k + 1) [93]).toArray⟩ : ByteArray) := ⟨_, rfl⟩
      rw [← hTY1] at ha1
      replace hTY1 := hide hTY1
      generalize (⟨(rep k [93]).toArray⟩ : ByteArray) = TX1 at *
      clear C1 C2 C3 hG
      go_wp2_with fail
      go_roundw
      case rel => exact ⟨trivial, k + 1, by omega, by first | rfl | go_num, by rw [unhide hTY0], by rw [unhide hTY1]⟩
      case measure => exact dec_1 hlt
    obtain rfl : n = k := by omega
    have hltz : ¬ (n : Int) < (n : Int) := by omega
    clear hlt hk
    have hr0 := rep_le n n [120, 91] (Nat.le_refl _) hn2 (by decide)
    have hr1 := rep_le n n [93] (Nat.le_refl _) hn2 (by decide)
    have hc0 : ∀ w, (Op.stringOp .add (⟨List.toArray [102, 117, 110, 99, 32, 109, 97, 105, 110, 40, 41, 32, 123, 32, 112, 114, 105, 110, 116, 32]⟩ : ByteArray) ⟨List.toArray (rep n [120, 91])⟩).run Tryd.prog w = .ok (.string (⟨List.toArray ([102, 117, 110, 99, 32, 109, 97, 105, 110, 40, 41, 32, 123, 32, 112, 114, 105, 110, 116, 32] ++ (rep n [120, 91]))⟩ : ByteArray)) w := fun w => add_bytes w rfl (by simp only [List.length_cons, List.length_nil]; omega)
    have hc1 : ∀ w, (Op.stringOp .add (⟨List.toArray ([102, 117, 110, 99, 32, 109, 97, 105, 110, 40, 41, 32, 123, 32, 112, 114, 105, 110, 116, 32] ++ (rep n [120, 91]))⟩ : ByteArray) ⟨List.toArray [49]⟩).run Tryd.prog w = .ok (.string (⟨List.toArray (([102, 117, 110, 99, 32, 109, 97, 105, 110, 40, 41, 32, 123, 32, 112, 114, 105, 110, 116, 32] ++ (rep n [120, 91])) ++ [49])⟩ : ByteArray)) w := fun w => add_bytes w rfl (by simp only [List.length_append, List.length_cons, List.length_nil]; omega)
    have hc2 : ∀ w, (Op.stringOp .add (⟨List.toArray (([102, 117, 110, 99, 32, 109, 97, 105, 110, 40, 41, 32, 123, 32, 112, 114, 105, 110, 116, 32] ++ (rep n [120, 91])) ++ [49])⟩ : ByteArray) ⟨List.toArray (rep n [93])⟩).run Tryd.prog w = .ok (.string (⟨List.toArray ((([102, 117, 110, 99, 32, 109, 97, 105, 110, 40, 41, 32, 123, 32, 112, 114, 105, 110, 116, 32] ++ (rep n [120, 91])) ++ [49]) ++ (rep n [93]))⟩ : ByteArray)) w := fun w => add_bytes w rfl (by simp only [List.length_append, List.length_cons, List.length_nil]; omega)
    have hc3 : ∀ w, (Op.stringOp .add (⟨List.toArray ((([102, 117, 110, 99, 32, 109, 97, 105, 110, 40, 41, 32, 123, 32, 112, 114, 105, 110, 116, 32] ++ (rep n [120, 91])) ++ [49]) ++ (rep n [93]))⟩ : ByteArray) ⟨List.toArray [59, 32, 125]⟩).run Tryd.prog w = .ok (.string (⟨List.toArray (nxE [120, 91] [93] n)⟩ : ByteArray)) w := fun w => add_bytes w rfl (by simp only [List.length_append, List.length_cons, List.length_nil]; omega)
    generalize (⟨List.toArray ([102, 117, 110, 99, 32, 109, 97, 105, 110, 40, 41, 32, 123, 32, 112, 114, 105, 110, 116, 32] ++ (rep n [120, 91]))⟩ : ByteArray) = B_0 at *
    generalize (⟨List.toArray (([102, 117, 110, 99, 32, 109, 97, 105, 110, 40, 41, 32, 123, 32, 112, 114, 105, 110, 116, 32] ++ (rep n [120, 91])) ++ [49])⟩ : ByteArray) = B_1 at *
    generalize (⟨List.toArray ((([102, 117, 110, 99, 32, 109, 97, 105, 110, 40, 41, 32, 123, 32, 112, 114, 105, 110, 116, 32] ++ (rep n [120, 91])) ++ [49]) ++ (rep n [93]))⟩ : ByteArray) = B_2 at *
    generalize (⟨List.toArray (nxE [120, 91] [93] n)⟩ : ByteArray) = B_3 at *
    generalize (⟨List.toArray (rep n [120, 91])⟩ : ByteArray) = B_4 at *
    generalize (⟨List.toArray (rep n [93])⟩ : ByteArray) = B_5 at *
    clear hr0 hr1
    go_wp2_with fail
    refine (unhide C1 wz (unhide hG)).mono ?_
    rintro e w3 ⟨g3, k3, x3, a3, p3, ao3, n3, c3, rfl⟩
    replace hG := hide ((unhide hG).trans (g3.more (.cells #[.string ⟨k3.toArray⟩, .string ⟨x3.toArray⟩, .int .i64 a3, .slice ao3 n3 c3] 25)))
    clear C1 g3
    go_wp2_with fail
    generalize w3.alloc (.cells #[.string ⟨k3.toArray⟩, .string ⟨x3.toArray⟩, .int .i64 a3, .slice ao3 n3 c3] 25) = wz at *
    go_loopw [15, 16, 17] (fun s0 s1 i wr => wr = wz ∧ ∃ k : Nat, k ≤ n ∧ i = .int .i64 (k : Int) ∧ s0 = .string ⟨(rep k [123, 32]).toArray⟩ ∧ s1 = .string ⟨(rep k [125, 32]).toArray⟩) (fun _ _ i _ => n - (intOf i).toNat)
    case atStart => exact ⟨rfl, 0, by omega, rfl, rfl, rfl⟩
    case round =>
      obtain ⟨hwz, k, hk, rfl, rfl, rfl⟩ := hrel
      obtain rfl : wz = wr := hwz.symm
      clear hwz
      by_cases hlt : k < n
      · have hltz : (k : Int) < (n : Int) := by omega
        have hkz : (k : Int) ≤ 80 := by omega
        have ha0 : ∀ w, (Op.stringOp .add (⟨(rep k [123, 32]).toArray⟩ : ByteArray) ⟨([123, 32] : List UInt8).toArray⟩).run Tryd.prog w = .ok (.string (⟨(rep (k + 1) [123, 32]).toArray⟩ : ByteArray)) w := fun w => add_bytes w (rep_succ k [123, 32]).symm (by have := rep_le k n [123, 32] hk hn2 (by decide); show (rep k [123, 32]).length + 2 ≤ _; omega)
        have ha1 : ∀ w, (Op.stringOp .add (⟨(rep k [125, 32]).toArray⟩ : ByteArray) ⟨([125, 32] : List UInt8).toArray⟩).run Tryd.prog w = .ok (.string (⟨(rep (k + 1) [125, 32]).toArray⟩ : ByteArray)) w := fun w => add_bytes w (rep_succ k [125, 32]).symm (by have := rep_le k n [125, 32] hk hn2 (by decide); show (rep k [125, 32]).length + 2 ≤ _; omega)
        obtain ⟨TY0, hTY0⟩ : ∃ TY, TY = (⟨(rep (k + 1) [123, 32]).toArray⟩ : ByteArray) := ⟨_, rfl⟩
        rw [← hTY0] at ha0
        replace hTY0 := hide hTY0
        generalize (⟨(rep k [123, 32]).toArray⟩ : ByteArray) = TX0 at *
        obtain ⟨TY1, hTY1⟩ : ∃ TY, TY = (⟨(rep (k + 1) [125, 32]).toArray⟩ : ByteArray) := ⟨_, rfl⟩
        rw [← hTY1] at ha1
        replace hTY1 := hide hTY1
        generalize (⟨(rep k [125, 32]).toArray⟩ : ByteArray) = TX1 at *
        clear C2 C3 hG
        go_wp2_with fail
        go_roundw
        case rel => exact ⟨trivial, k + 1, by omega, by first | rfl | go_num, by rw [unhide hTY0], by rw [unhide hTY1]⟩
        case measure => exact dec_1 hlt
      obtain rfl : n = k := by omega
      have hltz : ¬ (n : Int) < (n : Int) := by omega
      clear hlt hk
      have hr0 := rep_le n n [123, 32] (Nat.le_refl _) hn2 (by decide)
      have hr1 := rep_le n n [125, 32] (Nat.le_refl _) hn2 (by decide)
      have hc0 : ∀ w, (Op.stringOp .add (⟨List.toArray [102, 117, 110, 99, 32, 109, 97, 105, 110, 40, 41, 32]⟩ : ByteArray) ⟨List.toArray (rep n [123, 32])⟩).run Tryd.prog w = .ok (.string (⟨List.toArray ([102, 117, 110, 99, 32, 109, 97, 105, 110, 40, 41, 32] ++ (rep n [123, 32]))⟩ : ByteArray)) w := fun w => add_bytes w rfl (by simp only [List.length_cons, List.length_nil]; omega)
      have hc1 : ∀ w, (Op.stringOp .add (⟨List.toArray ([102, 117, 110, 99, 32, 109, 97, 105, 110, 40, 41, 32] ++ (rep n [123, 32]))⟩ : ByteArray) ⟨List.toArray (rep n [125, 32])⟩).run Tryd.prog w = .ok (.string (⟨List.toArray (nxB n)⟩ : ByteArray)) w := fun w => add_bytes w rfl (by simp only [List.length_append, List.length_cons, List.length_nil]; omega)
      generalize (⟨List.toArray ([102, 117, 110, 99, 32, 109, 97, 105, 110, 40, 41, 32] ++ (rep n [123, 32]))⟩ : ByteArray) = B_0 at *
      generalize (⟨List.toArray (nxB n)⟩ : ByteArray) = B_1 at *
      generalize (⟨List.toArray (rep n [123, 32])⟩ : ByteArray) = B_2 at *
      generalize (⟨List.toArray (rep n [125, 32])⟩ : ByteArray) = B_3 at *
      clear hr0 hr1
      go_wp2_with fail
      refine (unhide C2 wz (unhide hG)).mono ?_
      rintro e w4 ⟨g4, k4, x4, a4, p4, ao4, n4, c4, rfl⟩
      replace hG := hide ((unhide hG).trans (g4.more (.cells #[.string ⟨k4.toArray⟩, .string ⟨x4.toArray⟩, .int .i64 a4, .slice ao4 n4 c4] 25)))
      clear C2 g4
      go_wp2_with fail
      generalize w4.alloc (.cells #[.string ⟨k4.toArray⟩, .string ⟨x4.toArray⟩, .int .i64 a4, .slice ao4 n4 c4] 25) = wz at *
      go_loopw [22, 23] (fun s0 i wr => wr = wz ∧ ∃ k : Nat, k ≤ n ∧ i = .int .i64 (k : Int) ∧ s0 = .string ⟨(rep k [91, 93]).toArray⟩) (fun _ i _ => n - (intOf i).toNat)
      case atStart => exact ⟨rfl, 0, by omega, rfl, rfl⟩
      case round =>
        obtain ⟨hwz, k, hk, rfl, rfl⟩ := hrel
        obtain rfl : wz = wr := hwz.symm
        clear hwz
        by_cases hlt : k < n
        · have hltz : (k : Int) < (n : Int) := by omega
          have hkz : (k : Int) ≤ 80 := by omega
          have ha0 : ∀ w, (Op.stringOp .add (⟨(rep k [91, 93]).toArray⟩ : ByteArray) ⟨([91, 93] : List UInt8).toArray⟩).run Tryd.prog w = .ok (.string (⟨(rep (k + 1) [91, 93]).toArray⟩ : ByteArray)) w := fun w => add_bytes w (rep_succ k [91, 93]).symm (by have := rep_le k n [91, 93] hk hn2 (by decide); show (rep k [91, 93]).length + 2 ≤ _; omega)
          obtain ⟨TY0, hTY0⟩ : ∃ TY, TY = (⟨(rep (k + 1) [91, 93]).toArray⟩ : ByteArray) := ⟨_, rfl⟩
          rw [← hTY0] at ha0
          replace hTY0 := hide hTY0
          generalize (⟨(rep k [91, 93]).toArray⟩ : ByteArray) = TX0 at *
          clear C3 hG
          go_wp2_with fail
          go_roundw
          case rel => exact ⟨trivial, k + 1, by omega, by first | rfl | go_num, by rw [unhide hTY0]⟩
          case measure => exact dec_1 hlt
        obtain rfl : n = k := by omega
        have hltz : ¬ (n : Int) < (n : Int) := by omega
        clear hlt hk
        have hr0 := rep_le n n [91, 93] (Nat.le_refl _) hn2 (by decide)
        have hc0 : ∀ w, (Op.stringOp .add (⟨List.toArray [118, 97, 114, 32, 120, 32]⟩ : ByteArray) ⟨List.toArray (rep n [91, 93])⟩).run Tryd.prog w = .ok (.string (⟨List.toArray ([118, 97, 114, 32, 120, 32] ++ (rep n [91, 93]))⟩ : ByteArray)) w := fun w => add_bytes w rfl (by simp only [List.length_cons, List.length_nil]; omega)
        have hc1 : ∀ w, (Op.stringOp .add (⟨List.toArray ([118, 97, 114, 32, 120, 32] ++ (rep n [91, 93]))⟩ : ByteArray) ⟨List.toArray [105, 110, 116, 59]⟩).run Tryd.prog w = .ok (.string (⟨List.toArray (nxL n)⟩ : ByteArray)) w := fun w => add_bytes w rfl (by simp only [List.length_append, List.length_cons, List.length_nil]; omega)
        generalize (⟨List.toArray ([118, 97, 114, 32, 120, 32] ++ (rep n [91, 93]))⟩ : ByteArray) = B_0 at *
        generalize (⟨List.toArray (nxL n)⟩ : ByteArray) = B_1 at *
        generalize (⟨List.toArray (rep n [91, 93])⟩ : ByteArray) = B_2 at *
        clear hr0
        go_wp2_with fail
        refine (unhide C3 wz (unhide hG)).mono ?_
        rintro e w5 ⟨g5, k5, x5, a5, p5, ao5, n5, c5, rfl⟩
        replace hG := hide ((unhide hG).trans (g5.more (.cells #[.string ⟨k5.toArray⟩, .string ⟨x5.toArray⟩, .int .i64 a5, .slice ao5 n5 c5] 25)))
        clear C3 g5
        go_wp2_with fail
        go_ret
        exact ⟨rfl, unhide hG⟩
end Go.Proofs.YtablincnlfbjnaaDoor

/- ParseNests of gantlinelaw21: the walk (laid by py/pans.py). -/
namespace Go.Proofs.YtablincnlfbjnaaDoor
set_option maxRecDepth 100000
open Go.RowKit Go.Maps Go.ChangeShapes Go.WideShapes Go.ChangeAt Go.Deep

set_option maxHeartbeats 8000000 in
theorem nests_3_0 (n : Nat) (how : Int) (hn1 : 1 ≤ n) (hn2 : n ≤ 80) (hb : bits .and .i64 how 3 = 3) (hr : n ≤ 59) (W : World) (hE : EvAt W) (hT : SpAt W) : Calls Tryd.prog 4 #[.int .i64 (n : Int), .int .i64 how] W fun e w' => e = .returned (.bool true) ∧ G W w' := by
  have AW := hide (awake_any W hE hT)
  have C1 := hide fun w1 (g : G W w1) => parse_er (L := nxE [102, 40] [41] n) (by have := nxE_len [102, 40] [41] n (by decide) (by decide) hn2; omega) (hE.g g) (hT.g g) (er := 0) (by rw [fin_80 (p := fun n => (textP (nxE [102, 40] [41] n)).2.2 = if 59 < n then 2 else 0) nx_e3 n hn1 hn2]; rw [if_neg (by omega)])
  have C2 := hide fun w1 (g : G W w1) => parse_er (L := nxB n) (by have := nxB_len n hn2; omega) (hE.g g) (hT.g g) (er := 0) (by rw [fin_80 (p := fun n => (textP (nxB n)).2.2 = if 60 < n then 2 else 0) nx_b n hn1 hn2]; rw [if_neg (by omega)])
  have C3 := hide fun w1 (g : G W w1) => parse_er (L := nxL n) (by have := nxL_len n hn2; omega) (hE.g g) (hT.g g) (er := 0) (by rw [fin_80 (p := fun n => (textP (nxL n)).2.2 = if 59 < n then 2 else 0) nx_l n hn1 hn2]; rw [if_neg (by omega)])
  have n1 : ¬ (n : Int) < 1 := by omega
  have n80 : ¬ (80 : Int) < (n : Int) := by omega
  have n59 : ¬ (59 : Int) < (n : Int) := by omega
  have n60 : ¬ (60 : Int) < (n : Int) := by omega
  clear hE hT hr
  go_enter Tryd.func4, Tryd.ntmps4
  go_wp2_with fail
  refine (unhide AW).mono ?_
  rintro e wz ⟨rfl, g1⟩
  have hG := hide g1
  clear AW g1
  go_wp2_with fail
  go_loopw [8, 9, 10] (fun s0 s1 i wr => wr = wz ∧ ∃ k : Nat, k ≤ n ∧ i = .int .i64 (k : Int) ∧ s0 = .string ⟨(rep k [102, 40]).toArray⟩ ∧ s1 = .string ⟨(rep k [41]).toArray⟩) (fun _ _ i _ => n - (intOf i).toNat)
  case atStart => exact ⟨rfl, 0, by omega, rfl, rfl, rfl⟩
  case round =>
    obtain ⟨hwz, k, hk, rfl, rfl, rfl⟩ := hrel
    obtain rfl : wz = wr := hwz.symm
    clear hwz
    by_cases hlt : k < n
    · have hltz : (k : Int) < (n : Int) := by omega
      have hkz : (k : Int) ≤ 80 := by omega
      have ha0 : ∀ w, (Op.stringOp .add (⟨(rep k [102, 40]).toArray⟩ : ByteArray) ⟨([102, 40] : List UInt8).toArray⟩).run Tryd.prog w = .ok (.string (⟨(rep (k + 1) [102, 40]).toArray⟩ : ByteArray)) w := fun w => add_bytes w (rep_succ k [102, 40]).symm (by have := rep_le k n [102, 40] hk hn2 (by decide); show (rep k [102, 40]).length + 2 ≤ _; omega)
      have ha1 : ∀ w, (Op.stringOp .add (⟨(rep k [41]).toArray⟩ : ByteArray) ⟨([41] : List UInt8).toArray⟩).run Tryd.prog w = .ok (.string (⟨(rep (k + 1) [41]).toArray⟩ : ByteArray)) w := fun w => add_bytes w (rep_succ k [41]).symm (by have := rep_le k n [41] hk hn2 (by decide); show (rep k [41]).length + 1 ≤ _; omega)
      obtain ⟨TY0, hTY0⟩ : ∃ TY, TY = (⟨(rep (k + 1) [102, 40]).toArray⟩ : ByteArray) := ⟨_, rfl⟩
      rw [← hTY0] at ha0
      replace hTY0 := hide hTY0
      generalize (⟨(rep k [102, 40]).toArray⟩ : ByteArray) = TX0 at *
      obtain ⟨TY1, hTY1⟩ : ∃ TY, TY = (⟨(rep (k + 1) [41]).toArray⟩ : ByteArray) := ⟨_, rfl⟩
      rw [← hTY1] at ha1
      replace hTY1 := hide hTY1
      generalize (⟨(rep k [41]).toArray⟩ : ByteArray) = TX1 at *
      clear C1 C2 C3 hG
      go_wp2_with fail
      go_roundw
      case rel => exact ⟨trivial, k + 1, by omega, by first | rfl | go_num, by rw [unhide hTY0], by rw [unhide hTY1]⟩
      case measure => exact dec_1 hlt
    obtain rfl : n = k := by omega
    have hltz : ¬ (n : Int) < (n : Int) := by omega
    clear hlt hk
    have hr0 := rep_le n n [102, 40] (Nat.le_refl _) hn2 (by decide)
    have hr1 := rep_le n n [41] (Nat.le_refl _) hn2 (by decide)
    have hc0 : ∀ w, (Op.stringOp .add (⟨List.toArray [102, 117, 110, 99, 32, 109, 97, 105, 110, 40, 41, 32, 123, 32, 112, 114, 105, 110, 116, 32]⟩ : ByteArray) ⟨List.toArray (rep n [102, 40])⟩).run Tryd.prog w = .ok (.string (⟨List.toArray ([102, 117, 110, 99, 32, 109, 97, 105, 110, 40, 41, 32, 123, 32, 112, 114, 105, 110, 116, 32] ++ (rep n [102, 40]))⟩ : ByteArray)) w := fun w => add_bytes w rfl (by simp only [List.length_cons, List.length_nil]; omega)
    have hc1 : ∀ w, (Op.stringOp .add (⟨List.toArray ([102, 117, 110, 99, 32, 109, 97, 105, 110, 40, 41, 32, 123, 32, 112, 114, 105, 110, 116, 32] ++ (rep n [102, 40]))⟩ : ByteArray) ⟨List.toArray [49]⟩).run Tryd.prog w = .ok (.string (⟨List.toArray (([102, 117, 110, 99, 32, 109, 97, 105, 110, 40, 41, 32, 123, 32, 112, 114, 105, 110, 116, 32] ++ (rep n [102, 40])) ++ [49])⟩ : ByteArray)) w := fun w => add_bytes w rfl (by simp only [List.length_append, List.length_cons, List.length_nil]; omega)
    have hc2 : ∀ w, (Op.stringOp .add (⟨List.toArray (([102, 117, 110, 99, 32, 109, 97, 105, 110, 40, 41, 32, 123, 32, 112, 114, 105, 110, 116, 32] ++ (rep n [102, 40])) ++ [49])⟩ : ByteArray) ⟨List.toArray (rep n [41])⟩).run Tryd.prog w = .ok (.string (⟨List.toArray ((([102, 117, 110, 99, 32, 109, 97, 105, 110, 40, 41, 32, 123, 32, 112, 114, 105, 110, 116, 32] ++ (rep n [102, 40])) ++ [49]) ++ (rep n [41]))⟩ : ByteArray)) w := fun w => add_bytes w rfl (by simp only [List.length_append, List.length_cons, List.length_nil]; omega)
    have hc3 : ∀ w, (Op.stringOp .add (⟨List.toArray ((([102, 117, 110, 99, 32, 109, 97, 105, 110, 40, 41, 32, 123, 32, 112, 114, 105, 110, 116, 32] ++ (rep n [102, 40])) ++ [49]) ++ (rep n [41]))⟩ : ByteArray) ⟨List.toArray [59, 32, 125]⟩).run Tryd.prog w = .ok (.string (⟨List.toArray (nxE [102, 40] [41] n)⟩ : ByteArray)) w := fun w => add_bytes w rfl (by simp only [List.length_append, List.length_cons, List.length_nil]; omega)
    generalize (⟨List.toArray ([102, 117, 110, 99, 32, 109, 97, 105, 110, 40, 41, 32, 123, 32, 112, 114, 105, 110, 116, 32] ++ (rep n [102, 40]))⟩ : ByteArray) = B_0 at *
    generalize (⟨List.toArray (([102, 117, 110, 99, 32, 109, 97, 105, 110, 40, 41, 32, 123, 32, 112, 114, 105, 110, 116, 32] ++ (rep n [102, 40])) ++ [49])⟩ : ByteArray) = B_1 at *
    generalize (⟨List.toArray ((([102, 117, 110, 99, 32, 109, 97, 105, 110, 40, 41, 32, 123, 32, 112, 114, 105, 110, 116, 32] ++ (rep n [102, 40])) ++ [49]) ++ (rep n [41]))⟩ : ByteArray) = B_2 at *
    generalize (⟨List.toArray (nxE [102, 40] [41] n)⟩ : ByteArray) = B_3 at *
    generalize (⟨List.toArray (rep n [102, 40])⟩ : ByteArray) = B_4 at *
    generalize (⟨List.toArray (rep n [41])⟩ : ByteArray) = B_5 at *
    clear hr0 hr1
    go_wp2_with fail
    refine (unhide C1 wz (unhide hG)).mono ?_
    rintro e w3 ⟨g3, k3, x3, a3, p3, ao3, n3, c3, rfl⟩
    replace hG := hide ((unhide hG).trans (g3.more (.cells #[.string ⟨k3.toArray⟩, .string ⟨x3.toArray⟩, .int .i64 a3, .slice ao3 n3 c3] 25)))
    clear C1 g3
    go_wp2_with fail
    generalize w3.alloc (.cells #[.string ⟨k3.toArray⟩, .string ⟨x3.toArray⟩, .int .i64 a3, .slice ao3 n3 c3] 25) = wz at *
    go_loopw [15, 16, 17] (fun s0 s1 i wr => wr = wz ∧ ∃ k : Nat, k ≤ n ∧ i = .int .i64 (k : Int) ∧ s0 = .string ⟨(rep k [123, 32]).toArray⟩ ∧ s1 = .string ⟨(rep k [125, 32]).toArray⟩) (fun _ _ i _ => n - (intOf i).toNat)
    case atStart => exact ⟨rfl, 0, by omega, rfl, rfl, rfl⟩
    case round =>
      obtain ⟨hwz, k, hk, rfl, rfl, rfl⟩ := hrel
      obtain rfl : wz = wr := hwz.symm
      clear hwz
      by_cases hlt : k < n
      · have hltz : (k : Int) < (n : Int) := by omega
        have hkz : (k : Int) ≤ 80 := by omega
        have ha0 : ∀ w, (Op.stringOp .add (⟨(rep k [123, 32]).toArray⟩ : ByteArray) ⟨([123, 32] : List UInt8).toArray⟩).run Tryd.prog w = .ok (.string (⟨(rep (k + 1) [123, 32]).toArray⟩ : ByteArray)) w := fun w => add_bytes w (rep_succ k [123, 32]).symm (by have := rep_le k n [123, 32] hk hn2 (by decide); show (rep k [123, 32]).length + 2 ≤ _; omega)
        have ha1 : ∀ w, (Op.stringOp .add (⟨(rep k [125, 32]).toArray⟩ : ByteArray) ⟨([125, 32] : List UInt8).toArray⟩).run Tryd.prog w = .ok (.string (⟨(rep (k + 1) [125, 32]).toArray⟩ : ByteArray)) w := fun w => add_bytes w (rep_succ k [125, 32]).symm (by have := rep_le k n [125, 32] hk hn2 (by decide); show (rep k [125, 32]).length + 2 ≤ _; omega)
        obtain ⟨TY0, hTY0⟩ : ∃ TY, TY = (⟨(rep (k + 1) [123, 32]).toArray⟩ : ByteArray) := ⟨_, rfl⟩
        rw [← hTY0] at ha0
        replace hTY0 := hide hTY0
        generalize (⟨(rep k [123, 32]).toArray⟩ : ByteArray) = TX0 at *
        obtain ⟨TY1, hTY1⟩ : ∃ TY, TY = (⟨(rep (k + 1) [125, 32]).toArray⟩ : ByteArray) := ⟨_, rfl⟩
        rw [← hTY1] at ha1
        replace hTY1 := hide hTY1
        generalize (⟨(rep k [125, 32]).toArray⟩ : ByteArray) = TX1 at *
        clear C2 C3 hG
        go_wp2_with fail
        go_roundw
        case rel => exact ⟨trivial, k + 1, by omega, by first | rfl | go_num, by rw [unhide hTY0], by rw [unhide hTY1]⟩
        case measure => exact dec_1 hlt
      obtain rfl : n = k := by omega
      have hltz : ¬ (n : Int) < (n : Int) := by omega
      clear hlt hk
      have hr0 := rep_le n n [123, 32] (Nat.le_refl _) hn2 (by decide)
      have hr1 := rep_le n n [125, 32] (Nat.le_refl _) hn2 (by decide)
      have hc0 : ∀ w, (Op.stringOp .add (⟨List.toArray [102, 117, 110, 99, 32, 109, 97, 105, 110, 40, 41, 32]⟩ : ByteArray) ⟨List.toArray (rep n [123, 32])⟩).run Tryd.prog w = .ok (.string (⟨List.toArray ([102, 117, 110, 99, 32, 109, 97, 105, 110, 40, 41, 32] ++ (rep n [123, 32]))⟩ : ByteArray)) w := fun w => add_bytes w rfl (by simp only [List.length_cons, List.length_nil]; omega)
      have hc1 : ∀ w, (Op.stringOp .add (⟨List.toArray ([102, 117, 110, 99, 32, 109, 97, 105, 110, 40, 41, 32] ++ (rep n [123, 32]))⟩ : ByteArray) ⟨List.toArray (rep n [125, 32])⟩).run Tryd.prog w = .ok (.string (⟨List.toArray (nxB n)⟩ : ByteArray)) w := fun w => add_bytes w rfl (by simp only [List.length_append, List.length_cons, List.length_nil]; omega)
      generalize (⟨List.toArray ([102, 117, 110, 99, 32, 109, 97, 105, 110, 40, 41, 32] ++ (rep n [123, 32]))⟩ : ByteArray) = B_0 at *
      generalize (⟨List.toArray (nxB n)⟩ : ByteArray) = B_1 at *
      generalize (⟨List.toArray (rep n [123, 32])⟩ : ByteArray) = B_2 at *
      generalize (⟨List.toArray (rep n [125, 32])⟩ : ByteArray) = B_3 at *
      clear hr0 hr1
      go_wp2_with fail
      refine (unhide C2 wz (unhide hG)).mono ?_
      rintro e w4 ⟨g4, k4, x4, a4, p4, ao4, n4, c4, rfl⟩
      replace hG := hide ((unhide hG).trans (g4.more (.cells #[.string ⟨k4.toArray⟩, .string ⟨x4.toArray⟩, .int .i64 a4, .slice ao4 n4 c4] 25)))
      clear C2 g4
      go_wp2_with fail
      generalize w4.alloc (.cells #[.string ⟨k4.toArray⟩, .string ⟨x4.toArray⟩, .int .i64 a4, .slice ao4 n4 c4] 25) = wz at *
      go_loopw [22, 23] (fun s0 i wr => wr = wz ∧ ∃ k : Nat, k ≤ n ∧ i = .int .i64 (k : Int) ∧ s0 = .string ⟨(rep k [91, 93]).toArray⟩) (fun _ i _ => n - (intOf i).toNat)
      case atStart => exact ⟨rfl, 0, by omega, rfl, rfl⟩
      case round =>
        obtain ⟨hwz, k, hk, rfl, rfl⟩ := hrel
        obtain rfl : wz = wr := hwz.symm
        clear hwz
        by_cases hlt : k < n
        · have hltz : (k : Int) < (n : Int) := by omega
          have hkz : (k : Int) ≤ 80 := by omega
          have ha0 : ∀ w, (Op.stringOp .add (⟨(rep k [91, 93]).toArray⟩ : ByteArray) ⟨([91, 93] : List UInt8).toArray⟩).run Tryd.prog w = .ok (.string (⟨(rep (k + 1) [91, 93]).toArray⟩ : ByteArray)) w := fun w => add_bytes w (rep_succ k [91, 93]).symm (by have := rep_le k n [91, 93] hk hn2 (by decide); show (rep k [91, 93]).length + 2 ≤ _; omega)
          obtain ⟨TY0, hTY0⟩ : ∃ TY, TY = (⟨(rep (k + 1) [91, 93]).toArray⟩ : ByteArray) := ⟨_, rfl⟩
          rw [← hTY0] at ha0
          replace hTY0 := hide hTY0
          generalize (⟨(rep k [91, 93]).toArray⟩ : ByteArray) = TX0 at *
          clear C3 hG
          go_wp2_with fail
          go_roundw
          case rel => exact ⟨trivial, k + 1, by omega, by first | rfl | go_num, by rw [unhide hTY0]⟩
          case measure => exact dec_1 hlt
        obtain rfl : n = k := by omega
        have hltz : ¬ (n : Int) < (n : Int) := by omega
        clear hlt hk
        have hr0 := rep_le n n [91, 93] (Nat.le_refl _) hn2 (by decide)
        have hc0 : ∀ w, (Op.stringOp .add (⟨List.toArray [118, 97, 114, 32, 120, 32]⟩ : ByteArray) ⟨List.toArray (rep n [91, 93])⟩).run Tryd.prog w = .ok (.string (⟨List.toArray ([118, 97, 114, 32, 120, 32] ++ (rep n [91, 93]))⟩ : ByteArray)) w := fun w => add_bytes w rfl (by simp only [List.length_cons, List.length_nil]; omega)
        have hc1 : ∀ w, (Op.stringOp .add (⟨List.toArray ([118, 97, 114, 32, 120, 32] ++ (rep n [91, 93]))⟩ : ByteArray) ⟨List.toArray [105, 110, 116, 59]⟩).run Tryd.prog w = .ok (.string (⟨List.toArray (nxL n)⟩ : ByteArray)) w := fun w => add_bytes w rfl (by simp only [List.length_append, List.length_cons, List.length_nil]; omega)
        generalize (⟨List.toArray ([118, 97, 114, 32, 120, 32] ++ (rep n [91, 93]))⟩ : ByteArray) = B_0 at *
        generalize (⟨List.toArray (nxL n)⟩ : ByteArray) = B_1 at *
        generalize (⟨List.toArray (rep n [91, 93])⟩ : ByteArray) = B_2 at *
        clear hr0
        go_wp2_with fail
        refine (unhide C3 wz (unhide hG)).mono ?_
        rintro e w5 ⟨g5, k5, x5, a5, p5, ao5, n5, c5, rfl⟩
        replace hG := hide ((unhide hG).trans (g5.more (.cells #[.string ⟨k5.toArray⟩, .string ⟨x5.toArray⟩, .int .i64 a5, .slice ao5 n5 c5] 25)))
        clear C3 g5
        go_wp2_with fail
        go_ret
        exact ⟨rfl, unhide hG⟩
set_option maxHeartbeats 8000000 in
theorem nests_3_1 (n : Nat) (how : Int) (hn1 : 1 ≤ n) (hn2 : n ≤ 80) (hb : bits .and .i64 how 3 = 3) (hr : n = 60) (W : World) (hE : EvAt W) (hT : SpAt W) : Calls Tryd.prog 4 #[.int .i64 (n : Int), .int .i64 how] W fun e w' => e = .returned (.bool true) ∧ G W w' := by
  have AW := hide (awake_any W hE hT)
  have C1 := hide fun w1 (g : G W w1) => parse_er (L := nxE [102, 40] [41] n) (by have := nxE_len [102, 40] [41] n (by decide) (by decide) hn2; omega) (hE.g g) (hT.g g) (er := 2) (by rw [fin_80 (p := fun n => (textP (nxE [102, 40] [41] n)).2.2 = if 59 < n then 2 else 0) nx_e3 n hn1 hn2]; rw [if_pos (by omega)])
  have C2 := hide fun w1 (g : G W w1) => parse_er (L := nxB n) (by have := nxB_len n hn2; omega) (hE.g g) (hT.g g) (er := 0) (by rw [fin_80 (p := fun n => (textP (nxB n)).2.2 = if 60 < n then 2 else 0) nx_b n hn1 hn2]; rw [if_neg (by omega)])
  have C3 := hide fun w1 (g : G W w1) => parse_er (L := nxL n) (by have := nxL_len n hn2; omega) (hE.g g) (hT.g g) (er := 2) (by rw [fin_80 (p := fun n => (textP (nxL n)).2.2 = if 59 < n then 2 else 0) nx_l n hn1 hn2]; rw [if_pos (by omega)])
  have n1 : ¬ (n : Int) < 1 := by omega
  have n80 : ¬ (80 : Int) < (n : Int) := by omega
  have n59 : (59 : Int) < (n : Int) := by omega
  have n60 : ¬ (60 : Int) < (n : Int) := by omega
  clear hE hT hr
  go_enter Tryd.func4, Tryd.ntmps4
  go_wp2_with fail
  refine (unhide AW).mono ?_
  rintro e wz ⟨rfl, g1⟩
  have hG := hide g1
  clear AW g1
  go_wp2_with fail
  go_loopw [8, 9, 10] (fun s0 s1 i wr => wr = wz ∧ ∃ k : Nat, k ≤ n ∧ i = .int .i64 (k : Int) ∧ s0 = .string ⟨(rep k [102, 40]).toArray⟩ ∧ s1 = .string ⟨(rep k [41]).toArray⟩) (fun _ _ i _ => n - (intOf i).toNat)
  case atStart => exact ⟨rfl, 0, by omega, rfl, rfl, rfl⟩
  case round =>
    obtain ⟨hwz, k, hk, rfl, rfl, rfl⟩ := hrel
    obtain rfl : wz = wr := hwz.symm
    clear hwz
    by_cases hlt : k < n
    · have hltz : (k : Int) < (n : Int) := by omega
      have hkz : (k : Int) ≤ 80 := by omega
      have ha0 : ∀ w, (Op.stringOp .add (⟨(rep k [102, 40]).toArray⟩ : ByteArray) ⟨([102, 40] : List UInt8).toArray⟩).run Tryd.prog w = .ok (.string (⟨(rep (k + 1) [102, 40]).toArray⟩ : ByteArray)) w := fun w => add_bytes w (rep_succ k [102, 40]).symm (by have := rep_le k n [102, 40] hk hn2 (by decide); show (rep k [102, 40]).length + 2 ≤ _; omega)
      have ha1 : ∀ w, (Op.stringOp .add (⟨(rep k [41]).toArray⟩ : ByteArray) ⟨([41] : List UInt8).toArray⟩).run Tryd.prog w = .ok (.string (⟨(rep (k + 1) [41]).toArray⟩ : ByteArray)) w := fun w => add_bytes w (rep_succ k [41]).symm (by have := rep_le k n [41] hk hn2 (by decide); show (rep k [41]).length + 1 ≤ _; omega)
      obtain ⟨TY0, hTY0⟩ : ∃ TY, TY = (⟨(rep (k + 1) [102, 40]).toArray⟩ : ByteArray) := ⟨_, rfl⟩
      rw [← hTY0] at ha0
      replace hTY0 := hide hTY0
      generalize (⟨(rep k [102, 40]).toArray⟩ : ByteArray) = TX0 at *
      obtain ⟨TY1, hTY1⟩ : ∃ TY, TY = (⟨(rep (k + 1) [41]).toArray⟩ : ByteArray) := ⟨_, rfl⟩
      rw [← hTY1] at ha1
      replace hTY1 := hide hTY1
      generalize (⟨(rep k [41]).toArray⟩ : ByteArray) = TX1 at *
      clear C1 C2 C3 hG
      go_wp2_with fail
      go_roundw
      case rel => exact ⟨trivial, k + 1, by omega, by first | rfl | go_num, by rw [unhide hTY0], by rw [unhide hTY1]⟩
      case measure => exact dec_1 hlt
    obtain rfl : n = k := by omega
    have hltz : ¬ (n : Int) < (n : Int) := by omega
    clear hlt hk
    have hr0 := rep_le n n [102, 40] (Nat.le_refl _) hn2 (by decide)
    have hr1 := rep_le n n [41] (Nat.le_refl _) hn2 (by decide)
    have hc0 : ∀ w, (Op.stringOp .add (⟨List.toArray [102, 117, 110, 99, 32, 109, 97, 105, 110, 40, 41, 32, 123, 32, 112, 114, 105, 110, 116, 32]⟩ : ByteArray) ⟨List.toArray (rep n [102, 40])⟩).run Tryd.prog w = .ok (.string (⟨List.toArray ([102, 117, 110, 99, 32, 109, 97, 105, 110, 40, 41, 32, 123, 32, 112, 114, 105, 110, 116, 32] ++ (rep n [102, 40]))⟩ : ByteArray)) w := fun w => add_bytes w rfl (by simp only [List.length_cons, List.length_nil]; omega)
    have hc1 : ∀ w, (Op.stringOp .add (⟨List.toArray ([102, 117, 110, 99, 32, 109, 97, 105, 110, 40, 41, 32, 123, 32, 112, 114, 105, 110, 116, 32] ++ (rep n [102, 40]))⟩ : ByteArray) ⟨List.toArray [49]⟩).run Tryd.prog w = .ok (.string (⟨List.toArray (([102, 117, 110, 99, 32, 109, 97, 105, 110, 40, 41, 32, 123, 32, 112, 114, 105, 110, 116, 32] ++ (rep n [102, 40])) ++ [49])⟩ : ByteArray)) w := fun w => add_bytes w rfl (by simp only [List.length_append, List.length_cons, List.length_nil]; omega)
    have hc2 : ∀ w, (Op.stringOp .add (⟨List.toArray (([102, 117, 110, 99, 32, 109, 97, 105, 110, 40, 41, 32, 123, 32, 112, 114, 105, 110, 116, 32] ++ (rep n [102, 40])) ++ [49])⟩ : ByteArray) ⟨List.toArray (rep n [41])⟩).run Tryd.prog w = .ok (.string (⟨List.toArray ((([102, 117, 110, 99, 32, 109, 97, 105, 110, 40, 41, 32, 123, 32, 112, 114, 105, 110, 116, 32] ++ (rep n [102, 40])) ++ [49]) ++ (rep n [41]))⟩ : ByteArray)) w := fun w => add_bytes w rfl (by simp only [List.length_append, List.length_cons, List.length_nil]; omega)
    have hc3 : ∀ w, (Op.stringOp .add (⟨List.toArray ((([102, 117, 110, 99, 32, 109, 97, 105, 110, 40, 41, 32, 123, 32, 112, 114, 105, 110, 116, 32] ++ (rep n [102, 40])) ++ [49]) ++ (rep n [41]))⟩ : ByteArray) ⟨List.toArray [59, 32, 125]⟩).run Tryd.prog w = .ok (.string (⟨List.toArray (nxE [102, 40] [41] n)⟩ : ByteArray)) w := fun w => add_bytes w rfl (by simp only [List.length_append, List.length_cons, List.length_nil]; omega)
    generalize (⟨List.toArray ([102, 117, 110, 99, 32, 109, 97, 105, 110, 40, 41, 32, 123, 32, 112, 114, 105, 110, 116, 32] ++ (rep n [102, 40]))⟩ : ByteArray) = B_0 at *
    generalize (⟨List.toArray (([102, 117, 110, 99, 32, 109, 97, 105, 110, 40, 41, 32, 123, 32, 112, 114, 105, 110, 116, 32] ++ (rep n [102, 40])) ++ [49])⟩ : ByteArray) = B_1 at *
    generalize (⟨List.toArray ((([102, 117, 110, 99, 32, 109, 97, 105, 110, 40, 41, 32, 123, 32, 112, 114, 105, 110, 116, 32] ++ (rep n [102, 40])) ++ [49]) ++ (rep n [41]))⟩ : ByteArray) = B_2 at *
    generalize (⟨List.toArray (nxE [102, 40] [41] n)⟩ : ByteArray) = B_3 at *
    generalize (⟨List.toArray (rep n [102, 40])⟩ : ByteArray) = B_4 at *
    generalize (⟨List.toArray (rep n [41])⟩ : ByteArray) = B_5 at *
    clear hr0 hr1
    go_wp2_with fail
    refine (unhide C1 wz (unhide hG)).mono ?_
    rintro e w3 ⟨g3, k3, x3, a3, p3, ao3, n3, c3, rfl⟩
    replace hG := hide ((unhide hG).trans (g3.more (.cells #[.string ⟨k3.toArray⟩, .string ⟨x3.toArray⟩, .int .i64 a3, .slice ao3 n3 c3] 25)))
    clear C1 g3
    go_wp2_with fail
    generalize w3.alloc (.cells #[.string ⟨k3.toArray⟩, .string ⟨x3.toArray⟩, .int .i64 a3, .slice ao3 n3 c3] 25) = wz at *
    go_loopw [15, 16, 17] (fun s0 s1 i wr => wr = wz ∧ ∃ k : Nat, k ≤ n ∧ i = .int .i64 (k : Int) ∧ s0 = .string ⟨(rep k [123, 32]).toArray⟩ ∧ s1 = .string ⟨(rep k [125, 32]).toArray⟩) (fun _ _ i _ => n - (intOf i).toNat)
    case atStart => exact ⟨rfl, 0, by omega, rfl, rfl, rfl⟩
    case round =>
      obtain ⟨hwz, k, hk, rfl, rfl, rfl⟩ := hrel
      obtain rfl : wz = wr := hwz.symm
      clear hwz
      by_cases hlt : k < n
      · have hltz : (k : Int) < (n : Int) := by omega
        have hkz : (k : Int) ≤ 80 := by omega
        have ha0 : ∀ w, (Op.stringOp .add (⟨(rep k [123, 32]).toArray⟩ : ByteArray) ⟨([123, 32] : List UInt8).toArray⟩).run Tryd.prog w = .ok (.string (⟨(rep (k + 1) [123, 32]).toArray⟩ : ByteArray)) w := fun w => add_bytes w (rep_succ k [123, 32]).symm (by have := rep_le k n [123, 32] hk hn2 (by decide); show (rep k [123, 32]).length + 2 ≤ _; omega)
        have ha1 : ∀ w, (Op.stringOp .add (⟨(rep k [125, 32]).toArray⟩ : ByteArray) ⟨([125, 32] : List UInt8).toArray⟩).run Tryd.prog w = .ok (.string (⟨(rep (k + 1) [125, 32]).toArray⟩ : ByteArray)) w := fun w => add_bytes w (rep_succ k [125, 32]).symm (by have := rep_le k n [125, 32] hk hn2 (by decide); show (rep k [125, 32]).length + 2 ≤ _; omega)
        obtain ⟨TY0, hTY0⟩ : ∃ TY, TY = (⟨(rep (k + 1) [123, 32]).toArray⟩ : ByteArray) := ⟨_, rfl⟩
        rw [← hTY0] at ha0
        replace hTY0 := hide hTY0
        generalize (⟨(rep k [123, 32]).toArray⟩ : ByteArray) = TX0 at *
        obtain ⟨TY1, hTY1⟩ : ∃ TY, TY = (⟨(rep (k + 1) [125, 32]).toArray⟩ : ByteArray) := ⟨_, rfl⟩
        rw [← hTY1] at ha1
        replace hTY1 := hide hTY1
        generalize (⟨(rep k [125, 32]).toArray⟩ : ByteArray) = TX1 at *
        clear C2 C3 hG
        go_wp2_with fail
        go_roundw
        case rel => exact ⟨trivial, k + 1, by omega, by first | rfl | go_num, by rw [unhide hTY0], by rw [unhide hTY1]⟩
        case measure => exact dec_1 hlt
      obtain rfl : n = k := by omega
      have hltz : ¬ (n : Int) < (n : Int) := by omega
      clear hlt hk
      have hr0 := rep_le n n [123, 32] (Nat.le_refl _) hn2 (by decide)
      have hr1 := rep_le n n [125, 32] (Nat.le_refl _) hn2 (by decide)
      have hc0 : ∀ w, (Op.stringOp .add (⟨List.toArray [102, 117, 110, 99, 32, 109, 97, 105, 110, 40, 41, 32]⟩ : ByteArray) ⟨List.toArray (rep n [123, 32])⟩).run Tryd.prog w = .ok (.string (⟨List.toArray ([102, 117, 110, 99, 32, 109, 97, 105, 110, 40, 41, 32] ++ (rep n [123, 32]))⟩ : ByteArray)) w := fun w => add_bytes w rfl (by simp only [List.length_cons, List.length_nil]; omega)
      have hc1 : ∀ w, (Op.stringOp .add (⟨List.toArray ([102, 117, 110, 99, 32, 109, 97, 105, 110, 40, 41, 32] ++ (rep n [123, 32]))⟩ : ByteArray) ⟨List.toArray (rep n [125, 32])⟩).run Tryd.prog w = .ok (.string (⟨List.toArray (nxB n)⟩ : ByteArray)) w := fun w => add_bytes w rfl (by simp only [List.length_append, List.length_cons, List.length_nil]; omega)
      generalize (⟨List.toArray ([102, 117, 110, 99, 32, 109, 97, 105, 110, 40, 41, 32] ++ (rep n [123, 32]))⟩ : ByteArray) = B_0 at *
      generalize (⟨List.toArray (nxB n)⟩ : ByteArray) = B_1 at *
      generalize (⟨List.toArray (rep n [123, 32])⟩ : ByteArray) = B_2 at *
      generalize (⟨List.toArray (rep n [125, 32])⟩ : ByteArray) = B_3 at *
      clear hr0 hr1
      go_wp2_with fail
      refine (unhide C2 wz (unhide hG)).mono ?_
      rintro e w4 ⟨g4, k4, x4, a4, p4, ao4, n4, c4, rfl⟩
      replace hG := hide ((unhide hG).trans (g4.more (.cells #[.string ⟨k4.toArray⟩, .string ⟨x4.toArray⟩, .int .i64 a4, .slice ao4 n4 c4] 25)))
      clear C2 g4
      go_wp2_with fail
      generalize w4.alloc (.cells #[.string ⟨k4.toArray⟩, .string ⟨x4.toArray⟩, .int .i64 a4, .slice ao4 n4 c4] 25) = wz at *
      go_loopw [22, 23] (fun s0 i wr => wr = wz ∧ ∃ k : Nat, k ≤ n ∧ i = .int .i64 (k : Int) ∧ s0 = .string ⟨(rep k [91, 93]).toArray⟩) (fun _ i _ => n - (intOf i).toNat)
      case atStart => exact ⟨rfl, 0, by omega, rfl, rfl⟩
      case round =>
        obtain ⟨hwz, k, hk, rfl, rfl⟩ := hrel
        obtain rfl : wz = wr := hwz.symm
        clear hwz
        by_cases hlt : k < n
        · have hltz : (k : Int) < (n : Int) := by omega
          have hkz : (k : Int) ≤ 80 := by omega
          have ha0 : ∀ w, (Op.stringOp .add (⟨(rep k [91, 93]).toArray⟩ : ByteArray) ⟨([91, 93] : List UInt8).toArray⟩).run Tryd.prog w = .ok (.string (⟨(rep (k + 1) [91, 93]).toArray⟩ : ByteArray)) w := fun w => add_bytes w (rep_succ k [91, 93]).symm (by have := rep_le k n [91, 93] hk hn2 (by decide); show (rep k [91, 93]).length + 2 ≤ _; omega)
          obtain ⟨TY0, hTY0⟩ : ∃ TY, TY = (⟨(rep (k + 1) [91, 93]).toArray⟩ : ByteArray) := ⟨_, rfl⟩
          rw [← hTY0] at ha0
          replace hTY0 := hide hTY0
          generalize (⟨(rep k [91, 93]).toArray⟩ : ByteArray) = TX0 at *
          clear C3 hG
          go_wp2_with fail
          go_roundw
          case rel => exact ⟨trivial, k + 1, by omega, by first | rfl | go_num, by rw [unhide hTY0]⟩
          case measure => exact dec_1 hlt
        obtain rfl : n = k := by omega
        have hltz : ¬ (n : Int) < (n : Int) := by omega
        clear hlt hk
        have hr0 := rep_le n n [91, 93] (Nat.le_refl _) hn2 (by decide)
        have hc0 : ∀ w, (Op.stringOp .add (⟨List.toArray [118, 97, 114, 32, 120, 32]⟩ : ByteArray) ⟨List.toArray (rep n [91, 93])⟩).run Tryd.prog w = .ok (.string (⟨List.toArray ([118, 97, 114, 32, 120, 32] ++ (rep n [91, 93]))⟩ : ByteArray)) w := fun w => add_bytes w rfl (by simp only [List.length_cons, List.length_nil]; omega)
        have hc1 : ∀ w, (Op.stringOp .add (⟨List.toArray ([118, 97, 114, 32, 120, 32] ++ (rep n [91, 93]))⟩ : ByteArray) ⟨List.toArray [105, 110, 116, 59]⟩).run Tryd.prog w = .ok (.string (⟨List.toArray (nxL n)⟩ : ByteArray)) w := fun w => add_bytes w rfl (by simp only [List.length_append, List.length_cons, List.length_nil]; omega)
        generalize (⟨List.toArray ([118, 97, 114, 32, 120, 32] ++ (rep n [91, 93]))⟩ : ByteArray) = B_0 at *
        generalize (⟨List.toArray (nxL n)⟩ : ByteArray) = B_1 at *
        generalize (⟨List.toArray (rep n [91, 93])⟩ : ByteArray) = B_2 at *
        clear hr0
        go_wp2_with fail
        refine (unhide C3 wz (unhide hG)).mono ?_
        rintro e w5 ⟨g5, k5, x5, a5, p5, ao5, n5, c5, rfl⟩
        replace hG := hide ((unhide hG).trans (g5.more (.cells #[.string ⟨k5.toArray⟩, .string ⟨x5.toArray⟩, .int .i64 a5, .slice ao5 n5 c5] 25)))
        clear C3 g5
        go_wp2_with fail
        go_ret
        exact ⟨rfl, unhide hG⟩
set_option maxHeartbeats 8000000 in
theorem nests_3_2 (n : Nat) (how : Int) (hn1 : 1 ≤ n) (hn2 : n ≤ 80) (hb : bits .and .i64 how 3 = 3) (hr : 60 < n) (W : World) (hE : EvAt W) (hT : SpAt W) : Calls Tryd.prog 4 #[.int .i64 (n : Int), .int .i64 how] W fun e w' => e = .returned (.bool true) ∧ G W w' := by
  have AW := hide (awake_any W hE hT)
  have C1 := hide fun w1 (g : G W w1) => parse_er (L := nxE [102, 40] [41] n) (by have := nxE_len [102, 40] [41] n (by decide) (by decide) hn2; omega) (hE.g g) (hT.g g) (er := 2) (by rw [fin_80 (p := fun n => (textP (nxE [102, 40] [41] n)).2.2 = if 59 < n then 2 else 0) nx_e3 n hn1 hn2]; rw [if_pos (by omega)])
  have C2 := hide fun w1 (g : G W w1) => parse_er (L := nxB n) (by have := nxB_len n hn2; omega) (hE.g g) (hT.g g) (er := 2) (by rw [fin_80 (p := fun n => (textP (nxB n)).2.2 = if 60 < n then 2 else 0) nx_b n hn1 hn2]; rw [if_pos (by omega)])
  have C3 := hide fun w1 (g : G W w1) => parse_er (L := nxL n) (by have := nxL_len n hn2; omega) (hE.g g) (hT.g g) (er := 2) (by rw [fin_80 (p := fun n => (textP (nxL n)).2.2 = if 59 < n then 2 else 0) nx_l n hn1 hn2]; rw [if_pos (by omega)])
  have n1 : ¬ (n : Int) < 1 := by omega
  have n80 : ¬ (80 : Int) < (n : Int) := by omega
  have n59 : (59 : Int) < (n : Int) := by omega
  have n60 : (60 : Int) < (n : Int) := by omega
  clear hE hT hr
  go_enter Tryd.func4, Tryd.ntmps4
  go_wp2_with fail
  refine (unhide AW).mono ?_
  rintro e wz ⟨rfl, g1⟩
  have hG := hide g1
  clear AW g1
  go_wp2_with fail
  go_loopw [8, 9, 10] (fun s0 s1 i wr => wr = wz ∧ ∃ k : Nat, k ≤ n ∧ i = .int .i64 (k : Int) ∧ s0 = .string ⟨(rep k [102, 40]).toArray⟩ ∧ s1 = .string ⟨(rep k [41]).toArray⟩) (fun _ _ i _ => n - (intOf i).toNat)
  case atStart => exact ⟨rfl, 0, by omega, rfl, rfl, rfl⟩
  case round =>
    obtain ⟨hwz, k, hk, rfl, rfl, rfl⟩ := hrel
    obtain rfl : wz = wr := hwz.symm
    clear hwz
    by_cases hlt : k < n
    · have hltz : (k : Int) < (n : Int) := by omega
      have hkz : (k : Int) ≤ 80 := by omega
      have ha0 : ∀ w, (Op.stringOp .add (⟨(rep k [102, 40]).toArray⟩ : ByteArray) ⟨([102, 40] : List UInt8).toArray⟩).run Tryd.prog w = .ok (.string (⟨(rep (k + 1) [102, 40]).toArray⟩ : ByteArray)) w := fun w => add_bytes w (rep_succ k [102, 40]).symm (by have := rep_le k n [102, 40] hk hn2 (by decide); show (rep k [102, 40]).length + 2 ≤ _; omega)
      have ha1 : ∀ w, (Op.stringOp .add (⟨(rep k [41]).toArray⟩ : ByteArray) ⟨([41] : List UInt8).toArray⟩).run Tryd.prog w = .ok (.string (⟨(rep (k + 1) [41]).toArray⟩ : ByteArray)) w := fun w => add_bytes w (rep_succ k [41]).symm (by have := rep_le k n [41] hk hn2 (by decide); show (rep k [41]).length + 1 ≤ _; omega)
      obtain ⟨TY0, hTY0⟩ : ∃ TY, TY = (⟨(rep (k + 1) [102, 40]).toArray⟩ : ByteArray) := ⟨_, rfl⟩
      rw [← hTY0] at ha0
      replace hTY0 := hide hTY0
      generalize (⟨(rep k [102, 40]).toArray⟩ : ByteArray) = TX0 at *
      obtain ⟨TY1, hTY1⟩ : ∃ TY, TY = (⟨(rep (k + 1) [41]).toArray⟩ : ByteArray) := ⟨_, rfl⟩
      rw [← hTY1] at ha1
      replace hTY1 := hide hTY1
      generalize (⟨(rep k [41]).toArray⟩ : ByteArray) = TX1 at *
      clear C1 C2 C3 hG
      go_wp2_with fail
      go_roundw
      case rel => exact ⟨trivial, k + 1, by omega, by first | rfl | go_num, by rw [unhide hTY0], by rw [unhide hTY1]⟩
      case measure => exact dec_1 hlt
    obtain rfl : n = k := by omega
    have hltz : ¬ (n : Int) < (n : Int) := by omega
    clear hlt hk
    have hr0 := rep_le n n [102, 40] (Nat.le_refl _) hn2 (by decide)
    have hr1 := rep_le n n [41] (Nat.le_refl _) hn2 (by decide)
    have hc0 : ∀ w, (Op.stringOp .add (⟨List.toArray [102, 117, 110, 99, 32, 109, 97, 105, 110, 40, 41, 32, 123, 32, 112, 114, 105, 110, 116, 32]⟩ : ByteArray) ⟨List.toArray (rep n [102, 40])⟩).run Tryd.prog w = .ok (.string (⟨List.toArray ([102, 117, 110, 99, 32, 109, 97, 105, 110, 40, 41, 32, 123, 32, 112, 114, 105, 110, 116, 32] ++ (rep n [102, 40]))⟩ : ByteArray)) w := fun w => add_bytes w rfl (by simp only [List.length_cons, List.length_nil]; omega)
    have hc1 : ∀ w, (Op.stringOp .add (⟨List.toArray ([102, 117, 110, 99, 32, 109, 97, 105, 110, 40, 41, 32, 123, 32, 112, 114, 105, 110, 116, 32] ++ (rep n [102, 40]))⟩ : ByteArray) ⟨List.toArray [49]⟩).run Tryd.prog w = .ok (.string (⟨List.toArray (([102, 117, 110, 99, 32, 109, 97, 105, 110, 40, 41, 32, 123, 32, 112, 114, 105, 110, 116, 32] ++ (rep n [102, 40])) ++ [49])⟩ : ByteArray)) w := fun w => add_bytes w rfl (by simp only [List.length_append, List.length_cons, List.length_nil]; omega)
    have hc2 : ∀ w, (Op.stringOp .add (⟨List.toArray (([102, 117, 110, 99, 32, 109, 97, 105, 110, 40, 41, 32, 123, 32, 112, 114, 105, 110, 116, 32] ++ (rep n [102, 40])) ++ [49])⟩ : ByteArray) ⟨List.toArray (rep n [41])⟩).run Tryd.prog w = .ok (.string (⟨List.toArray ((([102, 117, 110, 99, 32, 109, 97, 105, 110, 40, 41, 32, 123, 32, 112, 114, 105, 110, 116, 32] ++ (rep n [102, 40])) ++ [49]) ++ (rep n [41]))⟩ : ByteArray)) w := fun w => add_bytes w rfl (by simp only [List.length_append, List.length_cons, List.length_nil]; omega)
    have hc3 : ∀ w, (Op.stringOp .add (⟨List.toArray ((([102, 117, 110, 99, 32, 109, 97, 105, 110, 40, 41, 32, 123, 32, 112, 114, 105, 110, 116, 32] ++ (rep n [102, 40])) ++ [49]) ++ (rep n [41]))⟩ : ByteArray) ⟨List.toArray [59, 32, 125]⟩).run Tryd.prog w = .ok (.string (⟨List.toArray (nxE [102, 40] [41] n)⟩ : ByteArray)) w := fun w => add_bytes w rfl (by simp only [List.length_append, List.length_cons, List.length_nil]; omega)
    generalize (⟨List.toArray ([102, 117, 110, 99, 32, 109, 97, 105, 110, 40, 41, 32, 123, 32, 112, 114, 105, 110, 116, 32] ++ (rep n [102, 40]))⟩ : ByteArray) = B_0 at *
    generalize (⟨List.toArray (([102, 117, 110, 99, 32, 109, 97, 105, 110, 40, 41, 32, 123, 32, 112, 114, 105, 110, 116, 32] ++ (rep n [102, 40])) ++ [49])⟩ : ByteArray) = B_1 at *
    generalize (⟨List.toArray ((([102, 117, 110, 99, 32, 109, 97, 105, 110, 40, 41, 32, 123, 32, 112, 114, 105, 110, 116, 32] ++ (rep n [102, 40])) ++ [49]) ++ (rep n [41]))⟩ : ByteArray) = B_2 at *
    generalize (⟨List.toArray (nxE [102, 40] [41] n)⟩ : ByteArray) = B_3 at *
    generalize (⟨List.toArray (rep n [102, 40])⟩ : ByteArray) = B_4 at *
    generalize (⟨List.toArray (rep n [41])⟩ : ByteArray) = B_5 at *
    clear hr0 hr1
    go_wp2_with fail
    refine (unhide C1 wz (unhide hG)).mono ?_
    rintro e w3 ⟨g3, k3, x3, a3, p3, ao3, n3, c3, rfl⟩
    replace hG := hide ((unhide hG).trans (g3.more (.cells #[.string ⟨k3.toArray⟩, .string ⟨x3.toArray⟩, .int .i64 a3, .slice ao3 n3 c3] 25)))
    clear C1 g3
    go_wp2_with fail
    generalize w3.alloc (.cells #[.string ⟨k3.toArray⟩, .string ⟨x3.toArray⟩, .int .i64 a3, .slice ao3 n3 c3] 25) = wz at *
    go_loopw [15, 16, 17] (fun s0 s1 i wr => wr = wz ∧ ∃ k : Nat, k ≤ n ∧ i = .int .i64 (k : Int) ∧ s0 = .string ⟨(rep k [123, 32]).toArray⟩ ∧ s1 = .string ⟨(rep k [125, 32]).toArray⟩) (fun _ _ i _ => n - (intOf i).toNat)
    case atStart => exact ⟨rfl, 0, by omega, rfl, rfl, rfl⟩
    case round =>
      obtain ⟨hwz, k, hk, rfl, rfl, rfl⟩ := hrel
      obtain rfl : wz = wr := hwz.symm
      clear hwz
      by_cases hlt : k < n
      · have hltz : (k : Int) < (n : Int) := by omega
        have hkz : (k : Int) ≤ 80 := by omega
        have ha0 : ∀ w, (Op.stringOp .add (⟨(rep k [123, 32]).toArray⟩ : ByteArray) ⟨([123, 32] : List UInt8).toArray⟩).run Tryd.prog w = .ok (.string (⟨(rep (k + 1) [123, 32]).toArray⟩ : ByteArray)) w := fun w => add_bytes w (rep_succ k [123, 32]).symm (by have := rep_le k n [123, 32] hk hn2 (by decide); show (rep k [123, 32]).length + 2 ≤ _; omega)
        have ha1 : ∀ w, (Op.stringOp .add (⟨(rep k [125, 32]).toArray⟩ : ByteArray) ⟨([125, 32] : List UInt8).toArray⟩).run Tryd.prog w = .ok (.string (⟨(rep (k + 1) [125, 32]).toArray⟩ : ByteArray)) w := fun w => add_bytes w (rep_succ k [125, 32]).symm (by have := rep_le k n [125, 32] hk hn2 (by decide); show (rep k [125, 32]).length + 2 ≤ _; omega)
        obtain ⟨TY0, hTY0⟩ : ∃ TY, TY = (⟨(rep (k + 1) [123, 32]).toArray⟩ : ByteArray) := ⟨_, rfl⟩
        rw [← hTY0] at ha0
        replace hTY0 := hide hTY0
        generalize (⟨(rep k [123, 32]).toArray⟩ : ByteArray) = TX0 at *
        obtain ⟨TY1, hTY1⟩ : ∃ TY, TY = (⟨(rep (k + 1) [125, 32]).toArray⟩ : ByteArray) := ⟨_, rfl⟩
        rw [← hTY1] at ha1
        replace hTY1 := hide hTY1
        generalize (⟨(rep k [125, 32]).toArray⟩ : ByteArray) = TX1 at *
        clear C2 C3 hG
        go_wp2_with fail
        go_roundw
        case rel => exact ⟨trivial, k + 1, by omega, by first | rfl | go_num, by rw [unhide hTY0], by rw [unhide hTY1]⟩
        case measure => exact dec_1 hlt
      obtain rfl : n = k := by omega
      have hltz : ¬ (n : Int) < (n : Int) := by omega
      clear hlt hk
      have hr0 := rep_le n n [123, 32] (Nat.le_refl _) hn2 (by decide)
      have hr1 := rep_le n n [125, 32] (Nat.le_refl _) hn2 (by decide)
      have hc0 : ∀ w, (Op.stringOp .add (⟨List.toArray [102, 117, 110, 99, 32, 109, 97, 105, 110, 40, 41, 32]⟩ : ByteArray) ⟨List.toArray (rep n [123, 32])⟩).run Tryd.prog w = .ok (.string (⟨List.toArray ([102, 117, 110, 99, 32, 109, 97, 105, 110, 40, 41, 32] ++ (rep n [123, 32]))⟩ : ByteArray)) w := fun w => add_bytes w rfl (by simp only [List.length_cons, List.length_nil]; omega)
      have hc1 : ∀ w, (Op.stringOp .add (⟨List.toArray ([102, 117, 110, 99, 32, 109, 97, 105, 110, 40, 41, 32] ++ (rep n [123, 32]))⟩ : ByteArray) ⟨List.toArray (rep n [125, 32])⟩).run Tryd.prog w = .ok (.string (⟨List.toArray (nxB n)⟩ : ByteArray)) w := fun w => add_bytes w rfl (by simp only [List.length_append, List.length_cons, List.length_nil]; omega)
      generalize (⟨List.toArray ([102, 117, 110, 99, 32, 109, 97, 105, 110, 40, 41, 32] ++ (rep n [123, 32]))⟩ : ByteArray) = B_0 at *
      generalize (⟨List.toArray (nxB n)⟩ : ByteArray) = B_1 at *
      generalize (⟨List.toArray (rep n [123, 32])⟩ : ByteArray) = B_2 at *
      generalize (⟨List.toArray (rep n [125, 32])⟩ : ByteArray) = B_3 at *
      clear hr0 hr1
      go_wp2_with fail
      refine (unhide C2 wz (unhide hG)).mono ?_
      rintro e w4 ⟨g4, k4, x4, a4, p4, ao4, n4, c4, rfl⟩
      replace hG := hide ((unhide hG).trans (g4.more (.cells #[.string ⟨k4.toArray⟩, .string ⟨x4.toArray⟩, .int .i64 a4, .slice ao4 n4 c4] 25)))
      clear C2 g4
      go_wp2_with fail
      generalize w4.alloc (.cells #[.string ⟨k4.toArray⟩, .string ⟨x4.toArray⟩, .int .i64 a4, .slice ao4 n4 c4] 25) = wz at *
      go_loopw [22, 23] (fun s0 i wr => wr = wz ∧ ∃ k : Nat, k ≤ n ∧ i = .int .i64 (k : Int) ∧ s0 = .string ⟨(rep k [91, 93]).toArray⟩) (fun _ i _ => n - (intOf i).toNat)
      case atStart => exact ⟨rfl, 0, by omega, rfl, rfl⟩
      case round =>
        obtain ⟨hwz, k, hk, rfl, rfl⟩ := hrel
        obtain rfl : wz = wr := hwz.symm
        clear hwz
        by_cases hlt : k < n
        · have hltz : (k : Int) < (n : Int) := by omega
          have hkz : (k : Int) ≤ 80 := by omega
          have ha0 : ∀ w, (Op.stringOp .add (⟨(rep k [91, 93]).toArray⟩ : ByteArray) ⟨([91, 93] : List UInt8).toArray⟩).run Tryd.prog w = .ok (.string (⟨(rep (k + 1) [91, 93]).toArray⟩ : ByteArray)) w := fun w => add_bytes w (rep_succ k [91, 93]).symm (by have := rep_le k n [91, 93] hk hn2 (by decide); show (rep k [91, 93]).length + 2 ≤ _; omega)
          obtain ⟨TY0, hTY0⟩ : ∃ TY, TY = (⟨(rep (k + 1) [91, 93]).toArray⟩ : ByteArray) := ⟨_, rfl⟩
          rw [← hTY0] at ha0
          replace hTY0 := hide hTY0
          generalize (⟨(rep k [91, 93]).toArray⟩ : ByteArray) = TX0 at *
          clear C3 hG
          go_wp2_with fail
          go_roundw
          case rel => exact ⟨trivial, k + 1, by omega, by first | rfl | go_num, by rw [unhide hTY0]⟩
          case measure => exact dec_1 hlt
        obtain rfl : n = k := by omega
        have hltz : ¬ (n : Int) < (n : Int) := by omega
        clear hlt hk
        have hr0 := rep_le n n [91, 93] (Nat.le_refl _) hn2 (by decide)
        have hc0 : ∀ w, (Op.stringOp .add (⟨List.toArray [118, 97, 114, 32, 120, 32]⟩ : ByteArray) ⟨List.toArray (rep n [91, 93])⟩).run Tryd.prog w = .ok (.string (⟨List.toArray ([118, 97, 114, 32, 120, 32] ++ (rep n [91, 93]))⟩ : ByteArray)) w := fun w => add_bytes w rfl (by simp only [List.length_cons, List.length_nil]; omega)
        have hc1 : ∀ w, (Op.stringOp .add (⟨List.toArray ([118, 97, 114, 32, 120, 32] ++ (rep n [91, 93]))⟩ : ByteArray) ⟨List.toArray [105, 110, 116, 59]⟩).run Tryd.prog w = .ok (.string (⟨List.toArray (nxL n)⟩ : ByteArray)) w := fun w => add_bytes w rfl (by simp only [List.length_append, List.length_cons, List.length_nil]; omega)
        generalize (⟨List.toArray ([118, 97, 114, 32, 120, 32] ++ (rep n [91, 93]))⟩ : ByteArray) = B_0 at *
        generalize (⟨List.toArray (nxL n)⟩ : ByteArray) = B_1 at *
        generalize (⟨List.toArray (rep n [91, 93])⟩ : ByteArray) = B_2 at *
        clear hr0
        go_wp2_with fail
        refine (unhide C3 wz (unhide hG)).mono ?_
        rintro e w5 ⟨g5, k5, x5, a5, p5, ao5, n5, c5, rfl⟩
        replace hG := hide ((unhide hG).trans (g5.more (.cells #[.string ⟨k5.toArray⟩, .string ⟨x5.toArray⟩, .int .i64 a5, .slice ao5 n5 c5] 25)))
        clear C3 g5
        go_wp2_with fail
        go_ret
        exact ⟨rfl, unhide hG⟩
end Go.Proofs.YtablincnlfbjnaaDoor
