/- The document's own fits (gantlineref19). -/
import Derived.Test.YtodfcmmdnobdhaaDoorLexSgn
namespace Go.Proofs.YtodfcmmdnobdhaaDoor
set_option maxRecDepth 100000
open Go.RowKit Go.Maps Go.ChangeShapes Go.WideShapes Go.ChangeAt Go.Deep

def isDig (c : UInt8) : Prop := 48 ≤ c.toNat ∧ c.toNat ≤ 57
theorem valF_pow : ∀ (x : List UInt8) (a : Nat), valF x a = a * 10 ^ x.length + valF x 0
  | [], a => by simp [valF]
  | c :: x, a => by
    have h1 : valF (c :: x) a = valF x (a * 10 + (c.toNat - 48)) := rfl
    have h2 : valF (c :: x) 0 = valF x (0 * 10 + (c.toNat - 48)) := rfl
    rw [h1, h2, valF_pow x (a * 10 + (c.toNat - 48)), valF_pow x (0 * 10 + (c.toNat - 48)), List.length_cons, Nat.pow_succ]
    rw [Nat.add_mul, show a * 10 * 10 ^ x.length = a * (10 ^ x.length * 10) by rw [Nat.mul_assoc, Nat.mul_comm 10], Nat.zero_mul, Nat.zero_add, Nat.add_assoc]
theorem valF_lt : ∀ (x : List UInt8), (∀ c ∈ x, isDig c) → valF x 0 < 10 ^ x.length
  | [], _ => by simp [valF]
  | c :: x, h => by
    have hc := (h c (by simp)).2
    have ih := valF_lt x (fun d hd => h d (by simp [hd]))
    have h2 : valF (c :: x) 0 = valF x (0 * 10 + (c.toNat - 48)) := rfl
    rw [h2, valF_pow, List.length_cons, Nat.pow_succ, Nat.zero_mul, Nat.zero_add]
    have : (c.toNat - 48) * 10 ^ x.length ≤ 9 * 10 ^ x.length := Nat.mul_le_mul_right _ (by omega)
    omega
theorem less_val : ∀ (x y : List UInt8), x.length = y.length → (∀ c ∈ x, isDig c) → (∀ c ∈ y, isDig c) → (Op.bytesLess x y || x == y) = decide (valF x 0 ≤ valF y 0)
  | [], [], _, _, _ => rfl
  | [], _ :: _, h, _, _ => by simp at h
  | _ :: _, [], h, _, _ => by simp at h
  | c :: x, d :: y, h, hx, hy => by
    have hl : x.length = y.length := by simpa using h
    have ih := less_val x y hl (fun e he => hx e (by simp [he])) (fun e he => hy e (by simp [he]))
    have bx := valF_lt x (fun e he => hx e (by simp [he]))
    have by' := valF_lt y (fun e he => hy e (by simp [he]))
    have hc := hx c (by simp)
    have hd := hy d (by simp)
    have h1 : valF (c :: x) 0 = (c.toNat - 48) * 10 ^ x.length + valF x 0 := by
      have h2 : valF (c :: x) 0 = valF x (0 * 10 + (c.toNat - 48)) := rfl
      rw [h2, valF_pow, Nat.zero_mul, Nat.zero_add]
    have h3 : valF (d :: y) 0 = (d.toNat - 48) * 10 ^ x.length + valF y 0 := by
      have h2 : valF (d :: y) 0 = valF y (0 * 10 + (d.toNat - 48)) := rfl
      rw [h2, valF_pow, Nat.zero_mul, Nat.zero_add, hl]
    rw [h1, h3]
    rw [← hl] at by'
    generalize hP : 10 ^ x.length = P at *
    unfold isDig at hc hd
    rcases Nat.lt_trichotomy c.toNat d.toNat with hlt | heq | hgt
    · have e1 : (c < d) := by rw [UInt8.lt_iff_toNat_lt]; exact hlt
      have e2 : (c.toNat - 48) * P + P ≤ (d.toNat - 48) * P := by
        have : (c.toNat - 48 + 1) * P ≤ (d.toNat - 48) * P := Nat.mul_le_mul_right _ (by omega)
        rw [Nat.add_mul, Nat.one_mul] at this
        exact this
      rw [decide_eq_true (by omega)]
      simp [Op.bytesLess, e1]
    · have e0 : c = d := UInt8.toNat_inj.1 heq
      subst e0
      have e1 : ¬ (c < c) := by rw [UInt8.lt_iff_toNat_lt]; omega
      have e4 : decide ((c.toNat - 48) * P + valF x 0 ≤ (c.toNat - 48) * P + valF y 0) = decide (valF x 0 ≤ valF y 0) := by
        rw [Bool.eq_iff_iff, decide_eq_true_iff, decide_eq_true_iff]
        omega
      rw [e4, ← ih]
      simp [Op.bytesLess, e1]
    · have e1 : ¬ (c < d) := by rw [UInt8.lt_iff_toNat_lt]; omega
      have e0 : ¬ c = d := fun e => by rw [e] at hgt; omega
      have e2 : (d.toNat - 48) * P + P ≤ (c.toNat - 48) * P := by
        have : (d.toNat - 48 + 1) * P ≤ (c.toNat - 48) * P := Nat.mul_le_mul_right _ (by omega)
        rw [Nat.add_mul, Nat.one_mul] at this
        exact this
      rw [decide_eq_false (by omega)]
      simp [Op.bytesLess, e1, e0]
def mostL : List UInt8 := [52, 54, 49, 49, 54, 56, 54, 48, 49, 56, 52, 50, 55, 51, 56, 55, 57, 48, 51]
theorem most_val : valF mostL 0 = 4611686018427387903 := by decide +kernel
theorem most_dig : ∀ c ∈ mostL, isDig c := by
  intro c hc
  simp only [mostL, List.mem_cons, List.not_mem_nil, or_false] at hc
  unfold isDig
  rcases hc with rfl | rfl | rfl | rfl | rfl | rfl | rfl | rfl | rfl | rfl | rfl | rfl | rfl | rfl | rfl | rfl | rfl | rfl | rfl <;> decide
/-- What fits asks of a row of digits that begins with no nought, or is one digit. -/
theorem fits_of {x : List UInt8} (hd : ∀ c ∈ x, isDig c) (h : x.length ≤ 1 ∨ ∃ c y, x = c :: y ∧ c ≠ 48) :
    fitsP x = (decide (x.length < 19) || (decide (x.length = 19) && (Op.bytesLess x mostL || x == mostL))) := by
  have hlt := valF_lt x hd
  have hm : mostL.length = 19 := rfl
  rcases Nat.lt_trichotomy x.length 19 with h1 | h1 | h1
  · have : 10 ^ x.length ≤ 10 ^ 18 := Nat.pow_le_pow_right (by omega) (by omega)
    have h18 : (10 : Nat) ^ 18 = 1000000000000000000 := by decide
    have e : fitsP x = true := by simp only [fitsP, decide_eq_true_eq]; omega
    rw [e, decide_eq_true h1, Bool.true_or]
  · rw [less_val x mostL (by rw [h1, hm]) hd most_dig, most_val, decide_eq_false (show ¬ x.length < 19 by omega), decide_eq_true h1, Bool.false_or, Bool.true_and]
    rfl
  · have e : fitsP x = false := by
      rcases h with h | ⟨c, y, rfl, hc⟩
      · omega
      · have h2 : valF (c :: y) 0 = valF y (0 * 10 + (c.toNat - 48)) := rfl
        have hcd := hd c (by simp)
        unfold isDig at hcd
        have hc1 : 1 ≤ c.toNat - 48 := by
          have : c.toNat ≠ 48 := fun e => hc (UInt8.toNat_inj.1 e)
          omega
        have hp : 10 ^ 19 ≤ 10 ^ y.length := Nat.pow_le_pow_right (by omega) (by simp only [List.length_cons] at h1; omega)
        have h19 : (10 : Nat) ^ 19 = 10000000000000000000 := by decide
        have h3 : 1 * 10 ^ y.length ≤ (c.toNat - 48) * 10 ^ y.length := Nat.mul_le_mul_right _ hc1
        simp only [fitsP, decide_eq_false_iff_not]
        rw [h2, valF_pow, Nat.zero_mul, Nat.zero_add]
        omega
    rw [e, decide_eq_false (show ¬ x.length < 19 by omega), decide_eq_false (show ¬ x.length = 19 by omega)]
    rfl
theorem fits_zero {x : List UInt8} : fitsP (48 :: x) = fitsP x := rfl
/-- A text's length. -/
def vlen : Value → Nat
  | .string s => s.size
  | _ => 0

set_option maxHeartbeats 1000000 in
theorem rfits_any (s : ByteArray) (w : World) (hs : s.size ≤ 1000000) (hd : ∀ c ∈ s.data.toList, isDig c) : Calls Tryd.prog 17 #[.string s] w fun e w' => e = .returned (.bool (fitsP s.data.toList)) ∧ w' = w := by
  obtain ⟨q, hq⟩ : ∃ q, q = fitsP s.data.toList := ⟨_, rfl⟩
  rw [← hq]
  have ST : Hid ((∀ c ∈ s.data.toList, isDig c) ∧ q = fitsP s.data.toList) := hide ⟨hd, hq⟩
  clear hq hd
  go_enter Tryd.func17, Tryd.ntmps17
  go_wp2_with fail
  go_loopw [0] (fun v wr => ∃ Z : ByteArray, Z.size ≤ 1000000 ∧ v = .string Z ∧ wr = w ∧ Hid ((∀ c ∈ Z.data.toList, isDig c) ∧ q = fitsP Z.data.toList)) (fun v _ => vlen v)
  case atStart => exact ⟨s, hs, rfl, rfl, ST⟩
  case round =>
    obtain ⟨Z, hZ, rfl, rfl, HQ⟩ := hrel
    clear ST hs
    obtain ⟨hd, hq⟩ := unhide HQ
    have hl : Z.data.toList.length = Z.size := (Lib.size_eq Z).symm
    have FIN : Hid ((Z.data.toList.length ≤ 1 ∨ ∃ c y, Z.data.toList = c :: y ∧ c ≠ 48) → q = (decide (Z.size < 19) || (decide (Z.size = 19) && (Op.bytesLess Z.toList [52, 54, 49, 49, 54, 56, 54, 48, 49, 56, 52, 50, 55, 51, 56, 55, 57, 48, 51] || Z.toList == [52, 54, 49, 49, 54, 56, 54, 48, 49, 56, 52, 50, 55, 51, 56, 55, 57, 48, 51])))) := hide fun h => by
      rw [hq, fits_of hd h, hl, Lib.toList_data]
      rfl
    by_cases h1 : 1 < Z.size
    · have h0 : 0 < Z.size := by omega
      have hg : Z[0]'h0 = Z.data.toList[0]'(by omega) := bget h0 (by omega)
      obtain ⟨c, y, hc⟩ : ∃ c y, Z.data.toList = c :: y := by
        cases hq : Z.data.toList with
        | nil => rw [hq] at hl; simp at hl; omega
        | cons a r => exact ⟨a, r, rfl⟩
      have hcn : (Z[0]'h0).toNat = c.toNat := by rw [hg]; simp [hc]
      have h2 : (1 : Int) < (Z.size : Int) := by omega
      have h3 : (0 : Int) < (Z.size : Int) := by omega
      have h4 : (1 : Int) ≤ (Z.size : Int) := by omega
      by_cases h48 : c.toNat = 48
      · have hc48 : c = 48 := UInt8.toNat_inj.1 h48
        have HN : Hid ((∀ c ∈ (Z.extract 1 Z.size).data.toList, isDig c) ∧ q = fitsP (Z.extract 1 Z.size).data.toList) := hide (by
          rw [ext_drop, hc, List.drop_succ_cons, List.drop_zero]
          refine ⟨fun d hd2 => hd d (by rw [hc]; simp [hd2]), ?_⟩
          rw [hq, hc, hc48, fits_zero])
        have hz := ext_size Z 1
        have HM := hide (show vlen (.string (Z.extract 1 Z.size)) < vlen (.string Z) by show (Z.extract 1 Z.size).size < Z.size; omega)
        have hzz : (Z.extract 1 Z.size).size ≤ 1000000 := by omega
        rw [h48] at hcn
        replace hzz := hide hzz
        clear HQ hd hq hl FIN hg hc hc48 hz h48
        go_wp2_with fail
        go_roundw
        case rel => exact ⟨Z.extract 1 Z.size, unhide hzz, rfl, (by first | rfl | trivial), HN⟩
        case measure => exact unhide HM
      · have HE := unhide FIN (Or.inr ⟨c, y, hc, fun e => h48 (by rw [e]; rfl)⟩)
        replace HE := hide HE
        have h49 : ¬ (c.toNat : Int) = 48 := by omega
        generalize c.toNat = cn at hcn h49
        clear HQ hd hq hl FIN hg hc h48
        cases hb1 : Op.bytesLess Z.toList [52, 54, 49, 49, 54, 56, 54, 48, 49, 56, 52, 50, 55, 51, 56, 55, 57, 48, 51]
        all_goals cases hb2 : (Z.toList == [52, 54, 49, 49, 54, 56, 54, 48, 49, 56, 52, 50, 55, 51, 56, 55, 57, 48, 51])
        all_goals
          rcases Nat.lt_trichotomy Z.size 19 with hz | hz | hz
          · have z1 : (Z.size : Int) < 19 := by omega
            have hqq := unhide HE
            rw [decide_eq_true hz, Bool.true_or] at hqq
            subst hqq
            clear HE
            go_wp2_with fail
            go_ret
            exact ⟨rfl, rfl⟩
          · have z1 : (Z.size : Int) = 19 := by omega
            have hqq := unhide HE
            rw [decide_eq_false (show ¬ Z.size < 19 by omega), decide_eq_true hz, hb1, hb2] at hqq
            subst hqq
            clear HE
            go_wp2_with fail
            go_ret
            exact ⟨rfl, rfl⟩
          · have z1 : ¬ (Z.size : Int) < 19 := by omega
            have z2 : ¬ (Z.size : Int) = 19 := by omega
            have hqq := unhide HE
            rw [decide_eq_false (show ¬ Z.size < 19 by omega), decide_eq_false (show ¬ Z.size = 19 by omega)] at hqq
            subst hqq
            clear HE
            go_wp2_with fail
            go_ret
            exact ⟨rfl, rfl⟩
    · have HE := unhide FIN (Or.inl (by omega))
      rw [decide_eq_true (show Z.size < 19 by omega), Bool.true_or] at HE
      subst HE
      have h2 : ¬ (1 : Int) < (Z.size : Int) := by omega
      have z1 : (Z.size : Int) < 19 := by omega
      clear HQ hd hq hl FIN
      go_wp2_with fail
      go_ret
      exact ⟨rfl, rfl⟩
end Go.Proofs.YtodfcmmdnobdhaaDoor
