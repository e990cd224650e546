/- Package lex: how long the sign is with which a text begins; its first word. -/
import Derived.Test.YtablincnlfbjnabDoorLexFirst
namespace Go.Proofs.YtablincnlfbjnabDoor
set_option maxRecDepth 100000
open Go.RowKit Go.Maps Go.ChangeShapes Go.WideShapes Go.ChangeAt

def oneN (n : Nat) : Bool := [40, 41, 123, 125, 91, 93, 44, 59, 46, 61, 60, 62, 43, 45, 42, 47, 37, 38, 124, 94, 33, 58].contains n
theorem oneP_eq (c : UInt8) : oneP c = oneN c.toNat := by
  have : ∀ d : UInt8, (c == d) = (c.toNat == d.toNat) := fun d => by
    rw [Bool.eq_iff_iff]
    simp [UInt8.toNat_inj]
  simp only [oneP, oneL, oneN, List.contains_cons, List.contains_nil, this]
  rfl
theorem ext_take (s : ByteArray) (n : Nat) : (s.extract 0 n).data.toList = s.data.toList.take n := by
  rw [Lib.extract_data, List.drop_zero, Nat.sub_zero]
theorem signN_big {s : ByteArray} (h : 2 ≤ s.size) (h0 : 0 < s.size) : signN s.data.toList = signM (twoL.contains (s.extract 0 2).toList) (oneN (s[0]'h0).toNat) := by
  have hl : s.data.toList.length = s.size := (Lib.size_eq s).symm
  have hg : s[0]'h0 = s.data.toList[0]'(by omega) := bget h0 (by omega)
  have ht : twoP s.data.toList = twoL.contains (s.extract 0 2).toList := by
    rw [twoP, hl, decide_eq_true h, Bool.true_and, Lib.toList_data, ext_take]
  rw [signN, headP_get (by omega), ht, hg, oneP_eq]
theorem signN_small {s : ByteArray} (h : ¬ 2 ≤ s.size) (h0 : 0 < s.size) : signN s.data.toList = signM false (oneN (s[0]'h0).toNat) := by
  have hl : s.data.toList.length = s.size := (Lib.size_eq s).symm
  have hg : s[0]'h0 = s.data.toList[0]'(by omega) := bget h0 (by omega)
  have ht : twoP s.data.toList = false := by
    rw [twoP, hl, decide_eq_false h, Bool.false_and]
  rw [signN, headP_get (by omega), ht, hg, oneP_eq]

set_option maxHeartbeats 4000000 in
theorem signLength_small (s : ByteArray) (w : World) (h0 : 0 < s.size) (h : ¬ 2 ≤ s.size) : Calls Tryd.prog 25 #[.string s] w fun e w' => e = .returned (.int .i64 (signN s.data.toList : Nat)) ∧ w' = w := by
  rw [signN_small h h0]
  obtain ⟨n, hn⟩ : ∃ n, n = (s[0]'h0).toNat := ⟨_, rfl⟩
  rw [← hn]
  obtain ⟨q, hq⟩ : ∃ q, q = signM false (oneN n) := ⟨_, rfl⟩
  have hq2 := hide hq
  rw [← hq]
  have h1 : ¬ (2 : Int) ≤ (s.size : Int) := by omega
  have h2 : (0 : Int) < (s.size : Int) := by omega
  have hn2 : (s[0]'h0).toNat = n := hn.symm
  clear hq h hn
  go_enter Tryd.func25, Tryd.ntmps25
  go_wp2_with fail
  all_goals go_ret
  all_goals
    have hq := unhide hq2
    clear hq2
    subst hq
    first
      | (exfalso; simp only [beq_iff_eq, beq_eq_false_iff_ne, ne_eq] at *; omega)
      | (have e1 : oneN n = true := by (simp only [beq_iff_eq, beq_eq_false_iff_ne, ne_eq] at *; simp [oneN]; omega)
         rw [e1]
         exact ⟨rfl, rfl⟩)
      | (have e1 : oneN n = false := by (simp only [beq_eq_false_iff_ne, ne_eq] at *; simp [oneN]; omega)
         rw [e1]
         exact ⟨rfl, rfl⟩)

set_option maxHeartbeats 8000000 in
theorem signLength_big (s : ByteArray) (w : World) (h0 : 0 < s.size) (h : 2 ≤ s.size) : Calls Tryd.prog 25 #[.string s] w fun e w' => e = .returned (.int .i64 (signN s.data.toList : Nat)) ∧ w' = w := by
  rw [signN_big h h0]
  obtain ⟨n, hn⟩ : ∃ n, n = (s[0]'h0).toNat := ⟨_, rfl⟩
  obtain ⟨X, hX⟩ : ∃ X, X = s.extract 0 2 := ⟨_, rfl⟩
  rw [← hn, ← hX]
  obtain ⟨q, hq⟩ : ∃ q, q = signM (twoL.contains X.toList) (oneN n) := ⟨_, rfl⟩
  have hq2 := hide hq
  rw [← hq]
  have h1 : (2 : Int) ≤ (s.size : Int) := by omega
  have h2 : (0 : Int) < (s.size : Int) := by omega
  have hn2 : (s[0]'h0).toNat = n := hn.symm
  have hX2 : s.extract 0 2 = X := hX.symm
  clear hq h hn hX
  go_enter Tryd.func25, Tryd.ntmps25
  go_wp2_with fail
  all_goals go_ret
  all_goals
    have hq := unhide hq2
    clear hq2 hX2 hn2
    subst hq
    first
      | (exfalso; simp_all only [reduceCtorEq]; done)
      | (have e2 : twoL.contains X.toList = true := by (simp only [twoL, List.contains_cons, List.contains_nil, Bool.true_or, Bool.or_true, Bool.or_false, *])
         rw [e2]
         exact ⟨rfl, rfl⟩)
      | (have e2 : twoL.contains X.toList = false := by (simp only [twoL, List.contains_cons, List.contains_nil, Bool.or_false, *])
         rw [e2]
         first
           | (exfalso; simp only [beq_iff_eq, beq_eq_false_iff_ne, ne_eq] at *; omega)
           | (have e1 : oneN n = true := by (simp only [beq_iff_eq, beq_eq_false_iff_ne, ne_eq] at *; simp [oneN]; omega)
              rw [e1]
              exact ⟨rfl, rfl⟩)
           | (have e1 : oneN n = false := by (simp only [beq_eq_false_iff_ne, ne_eq] at *; simp [oneN]; omega)
              rw [e1]
              exact ⟨rfl, rfl⟩))
theorem signLength_any (s : ByteArray) (w : World) (h0 : 0 < s.size) : Calls Tryd.prog 25 #[.string s] w fun e w' => e = .returned (.int .i64 (signN s.data.toList : Nat)) ∧ w' = w := by
  by_cases h : 2 ≤ s.size
  · exact signLength_big s w h0 h
  · exact signLength_small s w h0 h

set_option maxHeartbeats 1000000 in
theorem first_any (s : ByteArray) (w : World) (h0 : 0 < s.size) (hs : s.size ≤ 1000000) (hE : EvAt w) : Calls Tryd.prog 11 #[.string s] w fun e w' => e = .returned (.tuple #[.int .i64 ((firstW s.data.toList).1 : Nat), .int .i64 ((firstW s.data.toList).2 : Nat)]) ∧ G w w' := by
  have hl : s.data.toList.length = s.size := (Lib.size_eq s).symm
  have hg : s[0]'h0 = s.data.toList[0]'(by omega) := bget h0 (by omega)
  obtain ⟨c, r, hc⟩ : ∃ c r, s.data.toList = c :: r := by
    cases hq : s.data.toList with
    | nil => rw [hq] at hl; simp at hl; omega
    | cons a r => exact ⟨a, r, rfl⟩
  have hn : (s[0]'h0).toNat = c.toNat := by rw [hg]; simp [hc]
  have h2 : (0 : Int) < (s.size : Int) := by omega
  have A := hide (beginsName_any c.toNat w)
  have B := hide (ldigit_any c.toNat w)
  cases hL : letN c.toNat
  · cases hD : digN c.toNat
    · have e : firstW s.data.toList = (4, signN s.data.toList) := by rw [hc, firstW, hL, hD]; simp
      rw [e]
      have C := hide (signLength_any s w h0)
      generalize signN s.data.toList = q at C
      rw [hL] at A
      rw [hD] at B
      generalize c.toNat = n at hn A B
      clear e hc hL hD hg hl
      go_enter Tryd.func11, Tryd.ntmps11
      go_wp2_with fail
      refine (unhide A).mono ?_
      rintro e w' ⟨rfl, rfl⟩
      go_wp2_with fail
      refine (unhide B).mono ?_
      rintro e w' ⟨rfl, rfl⟩
      go_wp2_with fail
      refine (unhide C).mono ?_
      rintro e w' ⟨rfl, rfl⟩
      go_wp2_with fail
      go_ret2
      exact ⟨rfl, G.refl _⟩
    · have e : firstW s.data.toList = numW (s.data.toList.take (leadW digN s.data.toList)) := by rw [hc, firstW, hL, hD]; simp
      rw [e]
      have hle := leadW_le digN s.data.toList
      have hpos : 0 < leadW digN s.data.toList := by rw [hc]; simp [leadW, hD]
      have hall := leadW_all (p := digN) (l := s.data.toList)
      have C := lead_digit s w hs
      obtain ⟨m, hm⟩ : ∃ m, m = leadW digN s.data.toList := ⟨_, rfl⟩
      rw [← hm] at C hle hpos hall ⊢
      have hms : m ≤ s.size := by omega
      have hx := ext_take s m
      have hxs : (s.extract 0 m).size = m := by rw [Lib.size_eq, hx, List.length_take]; omega
      have D := numberOf_any (s.extract 0 m) w (by omega) (by omega) (by
        rw [hx]
        intro d hd
        have := hall d hd
        simp only [digN, Bool.and_eq_true, decide_eq_true_eq] at this
        exact this) hE
      rw [hx] at D
      replace D := hide D
      replace C := hide C
      generalize numW (s.data.toList.take m) = q at D
      rw [hL] at A
      rw [hD] at B
      generalize c.toNat = n at hn A B
      clear e hc hL hD hg hl hall hx hxs hm hle hpos
      go_enter Tryd.func11, Tryd.ntmps11
      go_wp2_with fail
      refine (unhide A).mono ?_
      rintro e w' ⟨rfl, rfl⟩
      go_wp2_with fail
      refine (unhide B).mono ?_
      rintro e w' ⟨rfl, rfl⟩
      go_wp2_with fail
      refine (unhide C).mono ?_
      rintro e w' ⟨rfl, rfl⟩
      go_wp2_with fail
      refine (unhide D).mono ?_
      rintro e w' ⟨rfl, hgg⟩
      replace hgg := hide hgg
      go_wp2_with fail
      go_ret2
      exact ⟨rfl, unhide hgg⟩
  · have e : firstW s.data.toList = nameW (s.data.toList.take (leadW nmN s.data.toList)) := by rw [hc, firstW, hL]; simp
    rw [e]
    have hle := leadW_le nmN s.data.toList
    have C := lead_inName s w hs
    obtain ⟨m, hm⟩ : ∃ m, m = leadW nmN s.data.toList := ⟨_, rfl⟩
    rw [← hm] at C hle ⊢
    have hms : m ≤ s.size := by omega
    have hx := ext_take s m
    have hxs : (s.extract 0 m).size = m := by rw [Lib.size_eq, hx, List.length_take]; omega
    have D := nameOf_any (s.extract 0 m) w (by omega)
    rw [hx] at D
    replace D := hide D
    replace C := hide C
    generalize nameW (s.data.toList.take m) = q at D
    rw [hL] at A
    generalize c.toNat = n at hn A B
    clear e hc hL hg hl hx hxs hm hle
    go_enter Tryd.func11, Tryd.ntmps11
    go_wp2_with fail
    refine (unhide A).mono ?_
    rintro e w' ⟨rfl, rfl⟩
    go_wp2_with fail
    refine (unhide C).mono ?_
    rintro e w' ⟨rfl, rfl⟩
    go_wp2_with fail
    refine (unhide D).mono ?_
    rintro e w' ⟨rfl, rfl⟩
    go_wp2_with fail
    go_ret2
    exact ⟨rfl, G.refl _⟩
end Go.Proofs.YtablincnlfbjnabDoor
