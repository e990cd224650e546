/- The program's parser: signed, unary, rowOf (laid by py/pax.py). -/
import Derived.Test.YtablincnlfbjnabDoorPaB6
namespace Go.Proofs.YtablincnlfbjnabDoor
set_option maxRecDepth 100000
open Go.RowKit Go.Maps Go.ChangeShapes Go.WideShapes Go.ChangeAt Go.Deep

theorem rc_20 : RowC (⟨#[83, 73, 71, 78, 32, 117, 110, 97, 114, 121]⟩ : ByteArray) [.sign, .part .unary] := ⟨by decide +kernel, by decide +kernel, by decide +kernel, by decide +kernel, by decide +kernel⟩
set_option maxHeartbeats 8000000 in
theorem signed_ok {rb wb wc : Nat} {ws : List Wd} {R : Nt → PS → Tt × PS} {M : Nat} (L : Lv rb wb wc ws R M) (s : PS) (hs : mu ws s < M + 1) (hmore : s.k + 1 < ws.length) : Ok rb wb wc ws 63 (signedP ws R) s := by
  refine ok_of fun hk y h => ?_
  unfold signedP
  have CR : Hid (∀ w1, RSt rb wb wc ws s w1 → Calls Tryd.prog 13 #[.pointer (some ⟨rb, 0, none⟩), .string ⟨#[117, 110, 97, 114, 121]⟩, .string ⟨#[83, 73, 71, 78, 32, 117, 110, 97, 114, 121]⟩, .slice none 0 0] w1 (NTo rb wb wc ws (pRow ws R [117, 110, 97, 114, 121] [.sign, .part .unary] [] s) w1)) := hide fun w1 hh => row_nil hh [117, 110, 97, 114, 121] rc_20 (L.sign [.part .unary] (by simp) hmore hs)
  generalize pRow ws R [117, 110, 97, 114, 121] [.sign, .part .unary] [] s = pr at *
  have p := hide ((Pn.new h).al (.cells zBox 27))
  have b := hide (BoxT.zero y)
  clear h hk hs L hmore
  go_enter Tryd.func63, Tryd.ntmps63
  go_wp2_with fail
  refine (unhide CR _ (unhide p).st).mono ?_
  rintro e w2 hn
  obtain ⟨ao, n, c, rfl, ⟨u0, u1, u2, u3, q0, q1, q2, q3⟩, ⟨z0, z1, z2, z3⟩, K⟩ := arm_fin (unhide p) (unhide b) hn
  clear hn p b
  go_wp2_with fail
  obtain ⟨K1, d0, d1, d2, d3⟩ := unhide K
  refine bodyPost_ret (by simp [results, Tryd.results63, go_sem, d0, d1, d2, d3]; try rfl) rfl ?_
  exact K1
set_option maxHeartbeats 8000000 in
theorem unary_ok {rb wb wc : Nat} {ws : List Wd} {R : Nt → PS → Tt × PS} {M : Nat} (L : Lv rb wb wc ws R M) (s : PS) (hs : mu ws s < M + 1) : Ok rb wb wc ws 54 (unaryP ws R) s := by
  refine ok_of fun hk y h => ?_
  unfold unaryP
  by_cases h0 : pIs ws [45] s = true
  · rw [if_pos h0]
    have C0 : Hid (∀ w1, RSt rb wb wc ws s w1 → Calls Tryd.prog 43 #[.pointer (some ⟨rb, 0, none⟩), .string ⟨#[45]⟩] w1 fun e w2 => e = .returned (.bool true) ∧ G w1 w2) := hide fun w1 hh => by have := is_any hh [45]; rw [h0] at this; exact this
    have CD : Hid (∀ w1, RSt rb wb wc ws s w1 → Calls Tryd.prog 45 #[.pointer (some ⟨rb, 0, none⟩), .func (.func 63) #[.pointer (some ⟨rb, 0, none⟩)] #[]] w1 (NTo rb wb wc ws (pDeeper (signedP ws R) s) w1)) := hide fun w1 hh => deeper_any hh _ _ (fun _ _ => rfl) (signed_ok L (pUp s) hs (is_more L.w hk (t := [45]) (by simp) h0))
    generalize pDeeper (signedP ws R) s = pr at *
    have p := hide ((Pn.new h).al (.cells zBox 27))
    have b := hide (BoxT.zero y)
    clear h hk hs L h0
    go_enter Tryd.func54, Tryd.ntmps54
    go_wp2_with fail
    refine (unhide C0 _ (unhide p).st).mono ?_
    rintro e w1 ⟨rfl, g⟩
    replace b := hide ((unhide b).g g)
    replace p := hide ((unhide p).g g)
    clear g
    go_wp2_with fail
    refine (unhide CD _ (unhide p).st).mono ?_
    rintro e w2 hn
    obtain ⟨ao, n, c, rfl, ⟨u0, u1, u2, u3, q0, q1, q2, q3⟩, ⟨z0, z1, z2, z3⟩, K⟩ := arm_fin (unhide p) (unhide b) hn
    clear hn p b
    go_wp2_with fail
    obtain ⟨K1, d0, d1, d2, d3⟩ := unhide K
    refine bodyPost_ret (by simp [results, Tryd.results54, go_sem, d0, d1, d2, d3]; try rfl) rfl ?_
    exact K1
  rw [if_neg h0]
  have h0' : pIs ws [45] s = false := by simpa using h0
  by_cases h1 : pIs ws [33] s = true
  · rw [if_pos h1]
    have C0 : Hid (∀ w1, RSt rb wb wc ws s w1 → Calls Tryd.prog 43 #[.pointer (some ⟨rb, 0, none⟩), .string ⟨#[45]⟩] w1 fun e w2 => e = .returned (.bool false) ∧ G w1 w2) := hide fun w1 hh => by have := is_any hh [45]; rw [h0'] at this; exact this
    have C1 : Hid (∀ w1, RSt rb wb wc ws s w1 → Calls Tryd.prog 43 #[.pointer (some ⟨rb, 0, none⟩), .string ⟨#[33]⟩] w1 fun e w2 => e = .returned (.bool true) ∧ G w1 w2) := hide fun w1 hh => by have := is_any hh [33]; rw [h1] at this; exact this
    have CD : Hid (∀ w1, RSt rb wb wc ws s w1 → Calls Tryd.prog 45 #[.pointer (some ⟨rb, 0, none⟩), .func (.func 63) #[.pointer (some ⟨rb, 0, none⟩)] #[]] w1 (NTo rb wb wc ws (pDeeper (signedP ws R) s) w1)) := hide fun w1 hh => deeper_any hh _ _ (fun _ _ => rfl) (signed_ok L (pUp s) hs (is_more L.w hk (t := [33]) (by simp) h1))
    generalize pDeeper (signedP ws R) s = pr at *
    have p := hide ((Pn.new h).al (.cells zBox 27))
    have b := hide (BoxT.zero y)
    clear h hk hs L h0 h1 h0'
    go_enter Tryd.func54, Tryd.ntmps54
    go_wp2_with fail
    refine (unhide C0 _ (unhide p).st).mono ?_
    rintro e w1 ⟨rfl, g⟩
    replace b := hide ((unhide b).g g)
    replace p := hide ((unhide p).g g)
    clear g
    go_wp2_with fail
    refine (unhide C1 _ (unhide p).st).mono ?_
    rintro e w1 ⟨rfl, g⟩
    replace b := hide ((unhide b).g g)
    replace p := hide ((unhide p).g g)
    clear g
    go_wp2_with fail
    refine (unhide CD _ (unhide p).st).mono ?_
    rintro e w2 hn
    obtain ⟨ao, n, c, rfl, ⟨u0, u1, u2, u3, q0, q1, q2, q3⟩, ⟨z0, z1, z2, z3⟩, K⟩ := arm_fin (unhide p) (unhide b) hn
    clear hn p b
    go_wp2_with fail
    obtain ⟨K1, d0, d1, d2, d3⟩ := unhide K
    refine bodyPost_ret (by simp [results, Tryd.results54, go_sem, d0, d1, d2, d3]; try rfl) rfl ?_
    exact K1
  rw [if_neg h1]
  have h1' : pIs ws [33] s = false := by simpa using h1
  have C0 : Hid (∀ w1, RSt rb wb wc ws s w1 → Calls Tryd.prog 43 #[.pointer (some ⟨rb, 0, none⟩), .string ⟨#[45]⟩] w1 fun e w2 => e = .returned (.bool false) ∧ G w1 w2) := hide fun w1 hh => by have := is_any hh [45]; rw [h0'] at this; exact this
  have C1 : Hid (∀ w1, RSt rb wb wc ws s w1 → Calls Tryd.prog 43 #[.pointer (some ⟨rb, 0, none⟩), .string ⟨#[33]⟩] w1 fun e w2 => e = .returned (.bool false) ∧ G w1 w2) := hide fun w1 hh => by have := is_any hh [33]; rw [h1'] at this; exact this
  have CD : Hid (∀ w1, RSt rb wb wc ws s w1 → Calls Tryd.prog 64 #[.pointer (some ⟨rb, 0, none⟩)] w1 (NTo rb wb wc ws (postP ws R s) w1)) := hide fun w1 hh => post_ok L s hs w1 hh
  generalize postP ws R s = pr at *
  have p := hide ((Pn.new h).al (.cells zBox 27))
  have b := hide (BoxT.zero y)
  clear h hk hs L h0 h1 h0' h1'
  go_enter Tryd.func54, Tryd.ntmps54
  go_wp2_with fail
  refine (unhide C0 _ (unhide p).st).mono ?_
  rintro e w1 ⟨rfl, g⟩
  replace b := hide ((unhide b).g g)
  replace p := hide ((unhide p).g g)
  clear g
  go_wp2_with fail
  refine (unhide C1 _ (unhide p).st).mono ?_
  rintro e w1 ⟨rfl, g⟩
  replace b := hide ((unhide b).g g)
  replace p := hide ((unhide p).g g)
  clear g
  go_wp2_with fail
  refine (unhide CD _ (unhide p).st).mono ?_
  rintro e w2 hn
  obtain ⟨ao, n, c, rfl, ⟨u0, u1, u2, u3, q0, q1, q2, q3⟩, ⟨z0, z1, z2, z3⟩, K⟩ := arm_fin (unhide p) (unhide b) hn
  clear hn p b
  go_wp2_with fail
  obtain ⟨K1, d0, d1, d2, d3⟩ := unhide K
  refine bodyPost_ret (by simp [results, Tryd.results54, go_sem, d0, d1, d2, d3]; try rfl) rfl ?_
  exact K1
set_option maxHeartbeats 8000000 in
theorem rowOf_any (x : List UInt8) (w : World) : Calls Tryd.prog 73 #[.string ⟨x.toArray⟩] w fun e w' => e = .returned (.int .i64 (rowOfP x : Int)) ∧ w' = w := by
  by_cases h0 : x = [124, 124]
  · subst h0
    have e : (rowOfP [124, 124] : Int) = 1 := rfl
    rw [e]
    go_enter Tryd.func73, Tryd.ntmps73
    go_wp2_with fail
    go_ret
    exact ⟨rfl, rfl⟩
  by_cases h1 : x = [38, 38]
  · subst h1
    have e : (rowOfP [38, 38] : Int) = 2 := rfl
    rw [e]
    go_enter Tryd.func73, Tryd.ntmps73
    go_wp2_with fail
    go_ret
    exact ⟨rfl, rfl⟩
  by_cases h2 : x = [61, 61]
  · subst h2
    have e : (rowOfP [61, 61] : Int) = 3 := rfl
    rw [e]
    go_enter Tryd.func73, Tryd.ntmps73
    go_wp2_with fail
    go_ret
    exact ⟨rfl, rfl⟩
  by_cases h3 : x = [33, 61]
  · subst h3
    have e : (rowOfP [33, 61] : Int) = 3 := rfl
    rw [e]
    go_enter Tryd.func73, Tryd.ntmps73
    go_wp2_with fail
    go_ret
    exact ⟨rfl, rfl⟩
  by_cases h4 : x = [60]
  · subst h4
    have e : (rowOfP [60] : Int) = 3 := rfl
    rw [e]
    go_enter Tryd.func73, Tryd.ntmps73
    go_wp2_with fail
    go_ret
    exact ⟨rfl, rfl⟩
  by_cases h5 : x = [60, 61]
  · subst h5
    have e : (rowOfP [60, 61] : Int) = 3 := rfl
    rw [e]
    go_enter Tryd.func73, Tryd.ntmps73
    go_wp2_with fail
    go_ret
    exact ⟨rfl, rfl⟩
  by_cases h6 : x = [62]
  · subst h6
    have e : (rowOfP [62] : Int) = 3 := rfl
    rw [e]
    go_enter Tryd.func73, Tryd.ntmps73
    go_wp2_with fail
    go_ret
    exact ⟨rfl, rfl⟩
  by_cases h7 : x = [62, 61]
  · subst h7
    have e : (rowOfP [62, 61] : Int) = 3 := rfl
    rw [e]
    go_enter Tryd.func73, Tryd.ntmps73
    go_wp2_with fail
    go_ret
    exact ⟨rfl, rfl⟩
  by_cases h8 : x = [43]
  · subst h8
    have e : (rowOfP [43] : Int) = 4 := rfl
    rw [e]
    go_enter Tryd.func73, Tryd.ntmps73
    go_wp2_with fail
    go_ret
    exact ⟨rfl, rfl⟩
  by_cases h9 : x = [45]
  · subst h9
    have e : (rowOfP [45] : Int) = 4 := rfl
    rw [e]
    go_enter Tryd.func73, Tryd.ntmps73
    go_wp2_with fail
    go_ret
    exact ⟨rfl, rfl⟩
  by_cases h10 : x = [124]
  · subst h10
    have e : (rowOfP [124] : Int) = 4 := rfl
    rw [e]
    go_enter Tryd.func73, Tryd.ntmps73
    go_wp2_with fail
    go_ret
    exact ⟨rfl, rfl⟩
  by_cases h11 : x = [94]
  · subst h11
    have e : (rowOfP [94] : Int) = 4 := rfl
    rw [e]
    go_enter Tryd.func73, Tryd.ntmps73
    go_wp2_with fail
    go_ret
    exact ⟨rfl, rfl⟩
  by_cases h12 : x = [42]
  · subst h12
    have e : (rowOfP [42] : Int) = 5 := rfl
    rw [e]
    go_enter Tryd.func73, Tryd.ntmps73
    go_wp2_with fail
    go_ret
    exact ⟨rfl, rfl⟩
  by_cases h13 : x = [47]
  · subst h13
    have e : (rowOfP [47] : Int) = 5 := rfl
    rw [e]
    go_enter Tryd.func73, Tryd.ntmps73
    go_wp2_with fail
    go_ret
    exact ⟨rfl, rfl⟩
  by_cases h14 : x = [37]
  · subst h14
    have e : (rowOfP [37] : Int) = 5 := rfl
    rw [e]
    go_enter Tryd.func73, Tryd.ntmps73
    go_wp2_with fail
    go_ret
    exact ⟨rfl, rfl⟩
  by_cases h15 : x = [60, 60]
  · subst h15
    have e : (rowOfP [60, 60] : Int) = 5 := rfl
    rw [e]
    go_enter Tryd.func73, Tryd.ntmps73
    go_wp2_with fail
    go_ret
    exact ⟨rfl, rfl⟩
  by_cases h16 : x = [62, 62]
  · subst h16
    have e : (rowOfP [62, 62] : Int) = 5 := rfl
    rw [e]
    go_enter Tryd.func73, Tryd.ntmps73
    go_wp2_with fail
    go_ret
    exact ⟨rfl, rfl⟩
  by_cases h17 : x = [38]
  · subst h17
    have e : (rowOfP [38] : Int) = 5 := rfl
    rw [e]
    go_enter Tryd.func73, Tryd.ntmps73
    go_wp2_with fail
    go_ret
    exact ⟨rfl, rfl⟩
  have e : (rowOfP x : Int) = 0 := by unfold rowOfP; rw [if_neg h0, if_neg h1, if_neg h2, if_neg h3, if_neg h4, if_neg h5, if_neg h6, if_neg h7, if_neg h8, if_neg h9, if_neg h10, if_neg h11, if_neg h12, if_neg h13, if_neg h14, if_neg h15, if_neg h16, if_neg h17]; rfl
  rw [e]
  have n0 : (x == [124, 124]) = false := by simpa using h0
  have n1 : (x == [38, 38]) = false := by simpa using h1
  have n2 : (x == [61, 61]) = false := by simpa using h2
  have n3 : (x == [33, 61]) = false := by simpa using h3
  have n4 : (x == [60]) = false := by simpa using h4
  have n5 : (x == [60, 61]) = false := by simpa using h5
  have n6 : (x == [62]) = false := by simpa using h6
  have n7 : (x == [62, 61]) = false := by simpa using h7
  have n8 : (x == [43]) = false := by simpa using h8
  have n9 : (x == [45]) = false := by simpa using h9
  have n10 : (x == [124]) = false := by simpa using h10
  have n11 : (x == [94]) = false := by simpa using h11
  have n12 : (x == [42]) = false := by simpa using h12
  have n13 : (x == [47]) = false := by simpa using h13
  have n14 : (x == [37]) = false := by simpa using h14
  have n15 : (x == [60, 60]) = false := by simpa using h15
  have n16 : (x == [62, 62]) = false := by simpa using h16
  have n17 : (x == [38]) = false := by simpa using h17
  clear e h0 h1 h2 h3 h4 h5 h6 h7 h8 h9 h10 h11 h12 h13 h14 h15 h16 h17
  go_enter Tryd.func73, Tryd.ntmps73
  go_wp2_with fail
  go_ret
  exact ⟨rfl, rfl⟩
end Go.Proofs.YtablincnlfbjnabDoor
