/- Package lex: how many bytes of a sort a text begins with. -/
import Derived.Test.YtablincnlfbjnabDoorLexLeaf
namespace Go.Proofs.YtablincnlfbjnabDoor
set_option maxRecDepth 100000
open Go.RowKit Go.Maps Go.ChangeShapes Go.WideShapes Go.ChangeAt

/-- How many bytes of a sort: 'such' tells it of each byte. -/
def SortC (F : Nat) (p : Nat → Bool) : Prop := ∀ (n : Nat) (w : World), Calls Tryd.prog F #[.int .u8 (n : Int)] w fun e w' => e = .returned (.bool (p n)) ∧ w' = w

theorem bget {s : ByteArray} {k : Nat} (h : k < s.size) (h2 : k < s.data.toList.length) : s[k]'h = s.data.toList[k]'h2 := by
  show s.data[k] = _
  simp
theorem toI (k : Nat) : ((k : Int)).toNat = k := Int.toNat_natCast k

set_option maxHeartbeats 2000000 in
theorem lead_any (F : Nat) (p : Nat → Bool) (hF : Hid (SortC F p)) (hE : ∀ args w, (callFunc F args).run Tryd.prog w = .ok (.enter F args) w) (s : ByteArray) (w : World) (hs : s.size ≤ 1000000) : Calls Tryd.prog 16 #[.string s, .func (.func F) #[] #[]] w fun e w' => e = .returned (.int .i64 (leadW p s.data.toList : Nat)) ∧ w' = w := by
  obtain ⟨q, hq⟩ : ∃ q, q = leadW p s.data.toList := ⟨_, rfl⟩
  have hq2 := hide hq
  rw [← hq]
  have hL := hide (Lib.size_eq s)
  clear hq
  go_enter Tryd.func16, Tryd.ntmps16
  go_wp2_with fail
  go_loopw [5, 8] (fun _ i wr => ∃ k : Nat, k ≤ s.size ∧ i = .int .i64 (k : Int) ∧ wr = w ∧ Hid (q = k + leadW p (s.data.toList.drop k))) (fun _ i _ => s.size - (intOf i).toNat)
  case atStart => exact ⟨0, Nat.zero_le _, rfl, rfl, hide (by rw [unhide hq2]; simp)⟩
  case round =>
    obtain ⟨k, hk, rfl, rfl, HQ⟩ := hrel
    by_cases hlt : k < s.size
    · have hl : k < s.data.toList.length := by rw [← Lib.size_eq]; exact hlt
      have hg := bget hlt hl
      cases hp : p (s.data.toList[k]).toNat
      · have C := (unhide hF) (s.data.toList[k]).toNat wr
        rw [hp] at C
        have HE : q = k := by rw [unhide HQ, leadW_miss hl hp, Nat.add_zero]
        have h1 : (0 : Int) ≤ (k : Int) ∧ (k : Int) < (s.size : Int) := ⟨Int.natCast_nonneg k, by omega⟩
        generalize s.data.toList[k] = c at hg C
        subst HE
        clear HQ hp hq2 hL hF
        go_wp2_with (refine (C).mono ?_; rintro e w' ⟨rfl, rfl⟩)
        go_ret
        exact ⟨rfl, rfl⟩
      · have C := (unhide hF) (s.data.toList[k]).toNat wr
        rw [hp] at C
        have HN : Hid (q = (k + 1) + leadW p (s.data.toList.drop (k + 1))) := hide (by rw [unhide HQ, leadW_hit hl hp]; omega)
        have h1 : (0 : Int) ≤ (k : Int) ∧ (k : Int) < (s.size : Int) := ⟨Int.natCast_nonneg k, by omega⟩
        generalize s.data.toList[k] = c at hg C
        clear HQ hp hq2 hL hF
        go_wp2_with (refine (C).mono ?_; rintro e w' ⟨rfl, rfl⟩)
        go_roundw
        case rel => exact ⟨k + 1, by omega, by go_num, (by first | rfl | trivial), HN⟩
        case measure => simp [intOf]; omega
    · have HE : q = s.size := by
        have := unhide HQ
        rw [List.drop_eq_nil_of_le (by rw [← Lib.size_eq]; omega), leadW_nil] at this
        omega
      subst HE
      have h1 : ¬ (k : Int) < (s.size : Int) := by omega
      clear HQ hq2 hL hF
      go_wp2_with fail
      go_ret
      exact ⟨rfl, rfl⟩

set_option maxHeartbeats 2000000 in
theorem slprefix_any (s p : ByteArray) (w : World) : Calls Tryd.prog 36 #[.string s, .string p] w fun e w' => e = .returned (.bool (Lib.hasPrefix s.data.toList p.data.toList)) ∧ w' = w := by
  rw [← Lib.hasPrefix_raw]
  go_enter Tryd.func36, Tryd.ntmps36
  go_wp2_with fail
  all_goals go_ret
  · rename_i h
    exact ⟨by rw [decide_eq_true h, Bool.true_and]; rfl, rfl⟩
  · rename_i h
    exact ⟨by rw [decide_eq_false h, Bool.false_and]; rfl, rfl⟩
theorem prefix_any (s p : ByteArray) (w : World) : Calls Tryd.prog 18 #[.string s, .string p] w fun e w' => e = .returned (.bool (Lib.hasPrefix s.data.toList p.data.toList)) ∧ w' = w := by
  have A := hide (slprefix_any s p w)
  generalize Lib.hasPrefix s.data.toList p.data.toList = q at A
  go_enter Tryd.func18, Tryd.ntmps18
  go_wp2_with (refine (unhide A).mono ?_; rintro e w' ⟨rfl, rfl⟩)
  go_ret
  exact ⟨rfl, rfl⟩
end Go.Proofs.YtablincnlfbjnabDoor
