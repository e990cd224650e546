/- The contracts of the document's own geometry (gantlineref1), from stage 4 on. -/
import Derived.Test.YtinehimleldkdaaGreatDoorRefNew
namespace Go.Proofs.YtinehimleldkdaaGreatDoor
set_option maxRecDepth 100000
open Go.RowKit

set_option maxHeartbeats 400000 in
theorem rplaces_any (c : Int) (w : World) :
    Calls Tryz.prog 95 #[.int .i64 c] w fun e w' => e = .returned (.int .i64 (gp c)) ∧ G w w' := by
  rcases cls c with h | h | h
  · go_enter Tryz.func95, Tryz.ntmps95
    go_wp2_with fail
    go_ret
    exact ⟨ret_int (gp_lo h).symm, G.refl _⟩
  · go_enter Tryz.func95, Tryz.ntmps95
    go_wp2_with fail
    go_ret
    exact ⟨ret_int (gp_hi h).symm, G.refl _⟩
  have h0 : 0 ≤ c := by omega
  have h5 : c ≤ 5 := by omega
  have C := hide (rwords_any c w)
  have hg : 2 ≤ gw c ∧ gw c ≤ 64 ∧ 64 / gw c = gp c := by rcases h with h | h | h | h | h | h <;> (subst h; decide)
  clear h
  obtain ⟨g0, g1, g2⟩ := hg
  generalize gp c = m at *
  generalize gw c = g at *
  go_enter Tryz.func95, Tryz.ntmps95
  go_wp2_with fail
  refine (unhide C).mono ?_
  rintro e w1 ⟨rfl, hgr⟩
  have HG := hide hgr
  clear hgr C
  go_wp2_with fail
  go_ret
  exact ⟨ret_int (by first | exact g2 | omega), unhide HG⟩

set_option maxHeartbeats 400000 in
theorem rspan_any (a : Int) (w : World) :
    Calls Tryz.prog 52 #[.int .i64 a] w fun e w' => e = .returned (.int .i64 (gs a)) ∧ w' = w := by
  by_cases h : a < 0
  · go_enter Tryz.func52, Tryz.ntmps52
    go_wp2
    go_ret
    exact ⟨ret_int (gs_lo h).symm, rfl⟩
  by_cases h2 : 32768 ≤ a
  · go_enter Tryz.func52, Tryz.ntmps52
    go_wp2
    go_ret
    exact ⟨ret_int (gs_hi h2).symm, rfl⟩
  · go_enter Tryz.func52, Tryz.ntmps52
    go_wp2
    go_ret
    exact ⟨ret_int (gs_in h h2).symm, rfl⟩

set_option maxHeartbeats 400000 in
theorem rplace_any (a c : Int) (w : World) :
    Calls Tryz.prog 53 #[.int .i64 a, .int .i64 c] w fun e w' => e = .returned (.int .i64 (gpl a c)) ∧ G w w' := by
  have CW := hide (rwords_any c)
  by_cases h0 : gw c = 0
  · rw [gpl_no h0]
    have h0' : (gw c == 0) = true := by simpa using h0
    clear h0
    generalize gw c = g at *
    go_enter Tryz.func53, Tryz.ntmps53
    go_wp2_with fail
    refine (unhide CW _).mono ?_
    rintro e w1 ⟨rfl, hg⟩
    have HG := hide hg
    clear hg
    go_wp2_with fail
    go_ret
    exact ⟨rfl, unhide HG⟩
  have h0' : (gw c == 0) = false := by simpa using h0
  have hw : 2 ≤ gw c ∧ gw c ≤ 64 := by have := gw_gp c; omega
  obtain ⟨g0, g1⟩ := hw
  by_cases h1 : a < 0
  · rw [gpl_lo h1]
    have CS := hide (rspan_any a)
    rw [gs_lo h1] at CS
    clear h0
    generalize gw c = g at *
    go_enter Tryz.func53, Tryz.ntmps53
    go_wp2_with fail
    refine (unhide CW _).mono ?_
    rintro e w1 ⟨rfl, hg⟩
    have HG := hide hg
    clear hg
    go_wp2_with fail
    refine (unhide CS _).mono ?_
    rintro e w' ⟨rfl, rfl⟩
    go_wp2_with fail
    go_ret
    exact ⟨rfl, unhide HG⟩
  by_cases h2 : 32768 ≤ a
  · rw [gpl_hi h2]
    have CS := hide (rspan_any a)
    rw [gs_hi h2] at CS
    clear h0
    generalize gw c = g at *
    go_enter Tryz.func53, Tryz.ntmps53
    go_wp2_with fail
    refine (unhide CW _).mono ?_
    rintro e w1 ⟨rfl, hg⟩
    have HG := hide hg
    clear hg
    go_wp2_with fail
    refine (unhide CS _).mono ?_
    rintro e w' ⟨rfl, rfl⟩
    go_wp2_with fail
    go_ret
    exact ⟨rfl, unhide HG⟩
  have h1' : 0 ≤ a := by omega
  have CS := hide (rspan_any a)
  have hs := gs_in h1' (by omega)
  have hs2 : 0 ≤ gs a := by omega
  clear hs
  generalize gs a = sp at *
  by_cases h3 : a % 64 % gw c = 0
  · have hr := gpl_in h0 h1' (by omega) h3
    clear h0
    generalize gpl a c = r at *
    generalize gw c = g at *
    subst hr
    go_enter Tryz.func53, Tryz.ntmps53
    go_wp2_with fail
    refine (unhide CW _).mono ?_
    rintro e w1 ⟨rfl, hg⟩
    have HG := hide hg
    clear hg
    go_wp2_with fail
    refine (unhide CS _).mono ?_
    rintro e w' ⟨rfl, rfl⟩
    go_wp2_with fail
    refine (unhide CW _).mono ?_
    rintro e w2 ⟨rfl, hg⟩
    have HG2 := hide (G.trans (unhide HG) hg)
    clear hg HG
    go_wp2_with fail
    refine (unhide CW _).mono ?_
    rintro e w3 ⟨rfl, hg⟩
    have HG3 := hide (G.trans (unhide HG2) hg)
    clear hg HG2
    go_wp2_with fail
    go_ret
    exact ⟨rfl, unhide HG3⟩
  · rw [gpl_off (a := a) h3]
    have h3' : (a % 64 % gw c != 0) = true := by simpa using h3
    clear h0 h3
    generalize gw c = g at *
    go_enter Tryz.func53, Tryz.ntmps53
    go_wp2_with fail
    refine (unhide CW _).mono ?_
    rintro e w1 ⟨rfl, hg⟩
    have HG := hide hg
    clear hg
    go_wp2_with fail
    refine (unhide CS _).mono ?_
    rintro e w' ⟨rfl, rfl⟩
    go_wp2_with fail
    refine (unhide CW _).mono ?_
    rintro e w2 ⟨rfl, hg⟩
    have HG2 := hide (G.trans (unhide HG) hg)
    clear hg HG
    go_wp2_with fail
    go_ret
    exact ⟨rfl, unhide HG2⟩

set_option maxHeartbeats 400000 in
theorem raddr_any (s p c : Int) (w : World) :
    Calls Tryz.prog 96 #[.int .i64 s, .int .i64 p, .int .i64 c] w fun e w' => e = .returned (.int .i64 (ga s p c)) ∧ G w w' := by
  by_cases h0 : s < 1
  · go_enter Tryz.func96, Tryz.ntmps96
    go_wp2_with fail
    go_ret
    exact ⟨ret_int (ga_s0 h0).symm, G.refl _⟩
  by_cases h1 : 511 < s
  · go_enter Tryz.func96, Tryz.ntmps96
    go_wp2_with fail
    go_ret
    exact ⟨ret_int (ga_s1 h1).symm, G.refl _⟩
  by_cases h2 : p < 0
  · go_enter Tryz.func96, Tryz.ntmps96
    go_wp2_with fail
    go_ret
    exact ⟨ret_int (ga_p0 h2).symm, G.refl _⟩
  by_cases h3 : gp c ≤ p
  · go_enter Tryz.func96, Tryz.ntmps96
    go_wp2_with fail
    refine (rplaces_any _ _).mono ?_
    rintro e w1 ⟨rfl, hg⟩
    have HG := hide hg
    clear hg
    go_wp2_with fail
    go_ret
    exact ⟨ret_int (ga_p1 h3).symm, unhide HG⟩
  · have hr := ga_in (s := s) (p := p) (c := c) (by omega) (by omega) (by omega) (by omega)
    have hq := place_room (p := p) (c := c) (by omega) (by omega)
    have hg : 0 ≤ gw c := by have := gw_gp c; omega
    obtain ⟨q0, q1⟩ := hq
    go_enter Tryz.func96, Tryz.ntmps96
    go_wp2_with fail
    refine (rplaces_any _ _).mono ?_
    rintro e w1 ⟨rfl, hg1⟩
    have HG := hide hg1
    clear hg1
    go_wp2_with fail
    refine (rwords_any _ _).mono ?_
    rintro e w2 ⟨rfl, hg1⟩
    have HG2 := hide (G.trans (unhide HG) hg1)
    clear hg1 HG
    go_wp2_with fail
    go_ret
    exact ⟨ret_int (by rw [hr]), unhide HG2⟩
end Go.Proofs.YtinehimleldkdaaGreatDoor
