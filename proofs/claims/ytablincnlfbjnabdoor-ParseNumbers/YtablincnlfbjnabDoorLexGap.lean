/- Package lex: what lies between words. -/
import Derived.Test.YtablincnlfbjnabDoorLexLead
import Derived.Shelf.Abstract
namespace Go.Proofs.YtablincnlfbjnabDoor
set_option maxRecDepth 100000
open Go.RowKit Go.Maps Go.ChangeShapes Go.WideShapes Go.ChangeAt

theorem ext_drop (s : ByteArray) (k : Nat) : (s.extract k s.size).data.toList = s.data.toList.drop k := by
  rw [Lib.extract_data, List.take_of_length_le]
  rw [List.length_drop, ← Lib.size_eq]
  omega
theorem ext_size (s : ByteArray) (k : Nat) : (s.extract k s.size).size = s.size - k := by
  rw [Lib.size_eq, ext_drop, List.length_drop, ← Lib.size_eq]

theorem dec_m {N k : Nat} {x : Int} (h : (k : Int) < x) (h2 : x ≤ (N : Int)) : N - (intOf (.int .i64 x)).toNat < N - (intOf (.int .i64 (k : Int))).toNat := by
  show N - x.toNat < N - ((k : Int)).toNat
  omega
theorem blank_sort : SortC 17 blankN := fun n w => blank_any n w
theorem inLine_sort : SortC 19 lineN := fun n w => inLine_any n w
theorem inName_sort : SortC 22 nmN := fun n w => inName_any n w
theorem digit_sort : SortC 23 digN := fun n w => ldigit_any n w
theorem lead_blank (s : ByteArray) (w : World) (hs : s.size ≤ 1000000) : Calls Tryd.prog 16 #[.string s, .func (.func 17) #[] #[]] w fun e w' => e = .returned (.int .i64 (leadW blankN s.data.toList : Nat)) ∧ w' = w := lead_any _ _ (hide blank_sort) (enters_of Tryd.func17 (by kernel_rfl) rfl) s w hs
theorem lead_inLine (s : ByteArray) (w : World) (hs : s.size ≤ 1000000) : Calls Tryd.prog 16 #[.string s, .func (.func 19) #[] #[]] w fun e w' => e = .returned (.int .i64 (leadW lineN s.data.toList : Nat)) ∧ w' = w := lead_any _ _ (hide inLine_sort) (enters_of Tryd.func19 (by kernel_rfl) rfl) s w hs
theorem lead_inName (s : ByteArray) (w : World) (hs : s.size ≤ 1000000) : Calls Tryd.prog 16 #[.string s, .func (.func 22) #[] #[]] w fun e w' => e = .returned (.int .i64 (leadW nmN s.data.toList : Nat)) ∧ w' = w := lead_any _ _ (hide inName_sort) (enters_of Tryd.func22 (by kernel_rfl) rfl) s w hs
theorem lead_digit (s : ByteArray) (w : World) (hs : s.size ≤ 1000000) : Calls Tryd.prog 16 #[.string s, .func (.func 23) #[] #[]] w fun e w' => e = .returned (.int .i64 (leadW digN s.data.toList : Nat)) ∧ w' = w := lead_any _ _ (hide digit_sort) (enters_of Tryd.func23 (by kernel_rfl) rfl) s w hs

set_option maxHeartbeats 2000000 in
theorem between_any (s : ByteArray) (w : World) (hs : s.size ≤ 1000000) : Calls Tryd.prog 10 #[.string s] w fun e w' => e = .returned (.int .i64 (gap s.data.toList : Nat)) ∧ w' = w := by
  have LB : Hid (∀ (k : Nat) (w : World), Calls Tryd.prog 16 #[.string (s.extract k s.size), .func (.func 17) #[] #[]] w fun e w' => e = .returned (.int .i64 (leadW blankN (s.data.toList.drop k) : Nat)) ∧ w' = w) := hide fun k w => by
    have := lead_blank (s.extract k s.size) w (by rw [ext_size]; omega)
    rwa [ext_drop] at this
  have LL : Hid (∀ (k : Nat) (w : World), Calls Tryd.prog 16 #[.string (s.extract k s.size), .func (.func 19) #[] #[]] w fun e w' => e = .returned (.int .i64 (leadW lineN (s.data.toList.drop k) : Nat)) ∧ w' = w) := hide fun k w => by
    have := lead_inLine (s.extract k s.size) w (by rw [ext_size]; omega)
    rwa [ext_drop] at this
  have PF : Hid (∀ (k : Nat) (w : World), Calls Tryd.prog 18 #[.string (s.extract k s.size), .string ⟨#[47, 47]⟩] w fun e w' => e = .returned (.bool (slash2 (s.data.toList.drop k))) ∧ w' = w) := hide fun k w => by
    have := prefix_any (s.extract k s.size) ⟨#[47, 47]⟩ w
    rwa [ext_drop] at this
  obtain ⟨q, hq⟩ : ∃ q, q = gap s.data.toList := ⟨_, rfl⟩
  have hq2 := hide hq
  rw [← hq]
  have hL : Hid (s.data.toList.length = s.size) := hide (Lib.size_eq s).symm
  clear hq
  go_enter Tryd.func10, Tryd.ntmps10
  go_wp2_with fail
  go_loopw [3] (fun i wr => ∃ k : Nat, k ≤ s.size ∧ i = .int .i64 (k : Int) ∧ wr = w ∧ Hid (q = k + gap (s.data.toList.drop k))) (fun i _ => s.size - (intOf i).toNat)
  case atStart => exact ⟨0, Nat.zero_le _, rfl, rfl, hide (by rw [unhide hq2]; simp)⟩
  case round =>
    obtain ⟨k, hk, rfl, rfl, HQ⟩ := hrel
    have C1 := unhide LB k wr
    have HA := leadW_le blankN (s.data.toList.drop k)
    rw [List.length_drop, unhide hL] at HA
    obtain ⟨a, ha⟩ : ∃ a, a = leadW blankN (s.data.toList.drop k) := ⟨_, rfl⟩
    rw [← ha] at C1 HA
    have ha2 := hide ha
    clear ha
    have hka : k + a ≤ s.size := by omega
    have C2 := unhide PF (k + a) wr
    have HG : gap (s.data.toList.drop k) = gap (s.data.toList.drop (k + a)) + a := by
      rw [gap_blanks, ← unhide ha2, List.drop_drop]
    cases hb : slash2 (s.data.toList.drop (k + a))
    · rw [hb] at C2
      have HE : q = k + a := by
        have h0 : leadW blankN (s.data.toList.drop (k + a)) = 0 := by rw [← List.drop_drop, unhide ha2]; exact leadW_idem _
        have := gap_end h0 hb
        have := unhide HQ
        omega
      subst HE
      clear HQ HG ha2 hb LB LL PF hL hq2 HA
      go_wp2_with fail
      refine (C1).mono ?_
      rintro e w' ⟨rfl, rfl⟩
      go_wp2_with fail
      refine (C2).mono ?_
      rintro e w' ⟨rfl, rfl⟩
      go_wp2_with fail
      go_ret
      exact ⟨by first | rfl | simp, rfl⟩
    · rw [hb] at C2
      have C3 := unhide LL (k + a) wr
      have HC := leadW_le lineN (s.data.toList.drop (k + a))
      rw [List.length_drop, unhide hL] at HC
      have HC2 := lead_of_slash hb
      have HG2 := gap_slash2 hb
      obtain ⟨c, hc⟩ : ∃ c, c = leadW lineN (s.data.toList.drop (k + a)) := ⟨_, rfl⟩
      rw [← hc] at C3 HC HC2 HG2
      rw [List.drop_drop] at HG2
      have HN : Hid (q = (k + a + c) + gap (s.data.toList.drop (k + a + c))) := hide (by have := unhide HQ; omega)
      have hkc : k + a + c ≤ s.size := by omega
      have HM := hide (show (k : Int) < (k : Int) + (a : Int) + (c : Int) ∧ (k : Int) + (a : Int) + (c : Int) ≤ (s.size : Int) by omega)
      clear HQ HG HG2 ha2 hb hc LB LL PF hL hq2 HA HC HC2
      go_wp2_with fail
      refine (C1).mono ?_
      rintro e w' ⟨rfl, rfl⟩
      go_wp2_with fail
      refine (C2).mono ?_
      rintro e w' ⟨rfl, rfl⟩
      go_wp2_with fail
      refine (C3).mono ?_
      rintro e w' ⟨rfl, rfl⟩
      go_wp2_with fail
      go_roundw
      case rel => exact ⟨k + a + c, by omega, by first | rfl | go_num, (by first | rfl | trivial), HN⟩
      case measure => exact dec_m (unhide HM).1 (unhide HM).2
end Go.Proofs.YtablincnlfbjnabDoor
