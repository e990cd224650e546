/- Package tree: Size, Deep and Same of trees of a few kinds. -/
import Derived.Test.YthbpmekfgkagiaaTrZ
namespace Go.Proofs.Ythbpmekfgkagiaa
set_option maxRecDepth 100000
open Go.RowKit Go.Maps Go.ChangeShapes Go.WideShapes Go.ChangeAt Go.Deep

def szP : T1 → Nat
  | .leaf _ _ _ => 1
  | .one _ _ t => 1 + szP t
  | .two _ _ t u => 1 + (szP t + szP u)
def dpP : T1 → Nat
  | .leaf _ _ _ => 1
  | .one _ _ t => dpP t + 1
  | .two _ _ t u => max (dpP t) (dpP u) + 1
theorem dp_le : ∀ t : T1, dpP t ≤ szP t
  | .leaf _ _ _ => Nat.le_refl _
  | .one _ _ t => by have := dp_le t; show dpP t + 1 ≤ 1 + szP t; omega
  | .two _ _ t u => by have := dp_le t; have := dp_le u; show max (dpP t) (dpP u) + 1 ≤ 1 + (szP t + szP u); omega
theorem TAt.gg {w y : World} {t : T1} {kv : Value} (h : TAt w w.heap.size t kv) (g : G w y) : TAt y y.heap.size t kv := (h.keep (fun q hq => g.block q hq)).mono g.size
theorem size_any : ∀ (t : T1) (w : World) (kv : Value), TAt w w.heap.size t kv → szP t ≤ 1000000 → Calls Try.prog 8 #[.agg (ndL t.k t.x t.a kv)] w fun e w' => e = .returned (.int .i64 (szP t : Int)) ∧ G w w'
  | .leaf k x a, w, kv, ⟨ao, c, e⟩, _ => by
    subst e
    exact size_of w k x a ao 0 c (fun _ => 0) (by omega) (Nat.zero_le _) (fun j hj => by omega)
  | .one x a t, w, kv, ⟨g, c, kv1, e, hg, hc, ht⟩, hs => by
    subst e
    have hs : 1 + szP t ≤ 1000000 := hs
    have H := size_of w kUn x a (some ⟨g, 0, none⟩) 1 c (fun _ => szP t) (by omega) (by show 0 + szP t ≤ 1000000; omega) (fun j hj => by
      obtain rfl : j = 0 := by omega
      exact ⟨g, 0, t.k, t.x, t.a, kv1, rfl, fun i u hu => by simpa using hc i u hu, ht.sl, fun y gy => size_any t y kv1 (TAt.gg ht gy) (by omega)⟩)
    rw [show 1 + sumTo (fun _ => szP t) 1 = szP (.one x a t) from by show 1 + (0 + szP t) = 1 + szP t; omega] at H
    exact H
  | .two x a t u, w, kv, ⟨g, c, kv1, kv2, e, hg, hc, hd, ht, hu⟩, hs => by
    subst e
    have hs : 1 + (szP t + szP u) ≤ 1000000 := hs
    have H := size_of w kBin x a (some ⟨g, 0, none⟩) 2 c (fun j => if j = 0 then szP t else szP u) (by omega) (by show 0 + szP t + szP u ≤ 1000000; omega) (fun j hj => by
      have h2 : j = 0 ∨ j = 1 := by omega
      rcases h2 with rfl | rfl
      · exact ⟨g, 0, t.k, t.x, t.a, kv1, rfl, fun i q hq => by simpa using hc i q hq, ht.sl, fun y gy => size_any t y kv1 (TAt.gg ht gy) (by omega)⟩
      · exact ⟨g, 0, u.k, u.x, u.a, kv2, rfl, fun i q hq => by simpa using hd i q hq, hu.sl, fun y gy => size_any u y kv2 (TAt.gg hu gy) (by omega)⟩)
    rw [show 1 + sumTo (fun j => if j = 0 then szP t else szP u) 2 = szP (.two x a t u) from by show 1 + (0 + szP t + szP u) = 1 + (szP t + szP u); omega] at H
    exact H
theorem deep_any : ∀ (t : T1) (w : World) (kv : Value), TAt w w.heap.size t kv → szP t ≤ 1000000 → Calls Try.prog 9 #[.agg (ndL t.k t.x t.a kv)] w fun e w' => e = .returned (.int .i64 (dpP t : Int)) ∧ G w w'
  | .leaf k x a, w, kv, ⟨ao, c, e⟩, _ => by
    subst e
    exact deep_of w k x a ao 0 c (fun _ => 0) (by omega) (fun j hj => by omega) (fun j hj => by omega)
  | .one x a t, w, kv, ⟨g, c, kv1, e, hg, hc, ht⟩, hs => by
    subst e
    have hs : 1 + szP t ≤ 1000000 := hs
    have hd := dp_le t
    have H := deep_of w kUn x a (some ⟨g, 0, none⟩) 1 c (fun _ => dpP t) (by omega) (fun j _ => by show dpP t ≤ 1000000; omega) (fun j hj => by
      obtain rfl : j = 0 := by omega
      exact ⟨g, 0, t.k, t.x, t.a, kv1, rfl, fun i u hu => by simpa using hc i u hu, ht.sl, fun y gy => deep_any t y kv1 (TAt.gg ht gy) (by omega)⟩)
    rw [show maxTo (fun _ => dpP t) 1 + 1 = dpP (.one x a t) from by show max 0 (dpP t) + 1 = dpP t + 1; omega] at H
    exact H
  | .two x a t u, w, kv, ⟨g, c, kv1, kv2, e, hg, hc, hd, ht, hu⟩, hs => by
    subst e
    have hs : 1 + (szP t + szP u) ≤ 1000000 := hs
    have hd1 := dp_le t
    have hd2 := dp_le u
    have H := deep_of w kBin x a (some ⟨g, 0, none⟩) 2 c (fun j => if j = 0 then dpP t else dpP u) (by omega) (fun j _ => by show (if j = 0 then dpP t else dpP u) ≤ 1000000; split <;> omega) (fun j hj => by
      have h2 : j = 0 ∨ j = 1 := by omega
      rcases h2 with rfl | rfl
      · exact ⟨g, 0, t.k, t.x, t.a, kv1, rfl, fun i q hq => by simpa using hc i q hq, ht.sl, fun y gy => deep_any t y kv1 (TAt.gg ht gy) (by omega)⟩
      · exact ⟨g, 0, u.k, u.x, u.a, kv2, rfl, fun i q hq => by simpa using hd i q hq, hu.sl, fun y gy => deep_any u y kv2 (TAt.gg hu gy) (by omega)⟩)
    rw [show maxTo (fun j => if j = 0 then dpP t else dpP u) 2 + 1 = dpP (.two x a t u) from by show max (max 0 (dpP t)) (dpP u) + 1 = max (dpP t) (dpP u) + 1; omega] at H
    exact H
set_option maxHeartbeats 2000000 in
theorem same_kind (w : World) (k1 x1 : ByteArray) (a1 : Int) (kg1 : Option Addr) (n1 c1 : Nat) (k2 x2 : ByteArray) (a2 : Int) (kg2 : Option Addr) (n2 c2 : Nat) (h : ¬ k1.toList = k2.toList) :
    Calls Try.prog 10 #[.agg (ndL k1 x1 a1 (.slice kg1 n1 c1)), .agg (ndL k2 x2 a2 (.slice kg2 n2 c2))] w fun e w' => e = .returned (.bool false) ∧ G w w' := by
  go_enter Try.func10, Try.ntmps10
  go_wp2_with fail
  go_ret
  exact ⟨rfl, (G.alloc _ _).more _⟩
theorem kinds_ne : ¬ kBin.toList = kEmp.toList := by
  first
  | decide +kernel
  | simp
  | (intro h; rw [ByteArray.toList_inj] at h; cases h)
abbrev sameV : Value := .func (.func 10) #[] #[]
theorem eqf_no (w : World) (ao bo : Option Addr) (n c m d : Nat) (h : n ≠ m) : Calls Try.prog 17 #[.slice ao n c, .slice bo m d, sameV] w fun e w' => e = .returned (.bool false) ∧ w' = w := by
  have h1 : ¬ (n : Int) = (m : Int) := by omega
  go_enter Try.func17, Try.ntmps17
  go_wp2_with fail
  go_ret
  exact ⟨rfl, rfl⟩
set_option maxHeartbeats 2000000 in
theorem eqf_yes (w : World) (ao bo : Option Addr) (n c d : Nat) (hn : n ≤ 1000) (H : ∀ j, j < n → ∃ g1 o1 k1 x1 a1 p1 n1 c1 g2 o2 k2 x2 a2 p2 n2 c2, ao = some ⟨g1, o1, none⟩ ∧ bo = some ⟨g2, o2, none⟩ ∧ (∀ i u, (ndL k1 x1 a1 (.slice p1 n1 c1))[i]? = some u → w.cell? ⟨g1, o1 + j * 4 + i, none⟩ = some u) ∧ (∀ i u, (ndL k2 x2 a2 (.slice p2 n2 c2))[i]? = some u → w.cell? ⟨g2, o2 + j * 4 + i, none⟩ = some u) ∧ ∀ y, G w y → Calls Try.prog 10 #[.agg (ndL k1 x1 a1 (.slice p1 n1 c1)), .agg (ndL k2 x2 a2 (.slice p2 n2 c2))] y fun e w' => e = .returned (.bool true) ∧ G y w') :
    Calls Try.prog 17 #[.slice ao n c, .slice bo n d, sameV] w fun e w' => e = .returned (.bool true) ∧ G w w' := by
  replace H := hide H
  go_enter Try.func17, Try.ntmps17
  go_wp2_with fail
  have st : Hid (G w w) := hide (G.refl w)
  go_loopw [7, 8, 9, 17] (fun _ _ _ i wr => ∃ q : Nat, q ≤ n ∧ i = .int .i64 (q : Int) ∧ Hid (G w wr)) (fun _ _ _ i _ => n - (intOf i).toNat)
  case atStart => exact ⟨0, Nat.zero_le _, rfl, st⟩
  case round =>
    obtain ⟨q, hle, rfl, hg⟩ := hrel
    clear st
    by_cases hlt : q < n
    · obtain ⟨g1, o1, k1, x1, a1, p1, n1, c1, g2, o2, k2, x2, a2, p2, n2, c2, rfl, rfl, h1, h2, HC⟩ := unhide H q hlt
      have g := unhide hg
      have q0 := g.cell (h1 0 _ rfl)
      have q1 := g.cell (h1 1 _ rfl)
      have q2 := g.cell (h1 2 _ rfl)
      have q3 := g.cell (h1 3 _ rfl)
      have r0 := g.cell (h2 0 _ rfl)
      have r1 := g.cell (h2 1 _ rfl)
      have r2 := g.cell (h2 2 _ rfl)
      have r3 := g.cell (h2 3 _ rfl)
      simp only [Nat.add_zero] at q0 r0
      have ga := G.alloc wr (.cells (ndL k1 x1 a1 (.slice p1 n1 c1)) 26)
      have s0 := ga.cell r0
      have s1 := ga.cell r1
      have s2 := ga.cell r2
      have s3 := ga.cell r3
      have gn := (g.trans ga).more (.cells (ndL k2 x2 a2 (.slice p2 n2 c2)) 26)
      have C := hide (HC _ gn)
      replace gn := hide gn
      clear h1 h2 HC g ga H
      go_wp2_with fail
      refine (unhide C).mono ?_
      rintro e w2 ⟨rfl, g2⟩
      have gz := hide ((unhide gn).trans g2)
      clear g2 gn C hg q0 q1 q2 q3 r0 r1 r2 r3 s0 s1 s2 s3
      go_wp2_with fail
      go_roundw
      case rel => exact ⟨q + 1, by omega, by go_num, gz⟩
      case measure => simp [intOf]; omega
    · obtain rfl : q = n := by omega
      clear H
      go_wp2_with fail
      go_ret
      exact ⟨rfl, unhide hg⟩
set_option maxHeartbeats 2000000 in
theorem same_yes (w : World) (k x : ByteArray) (a1 : Int) (kg1 : Option Addr) (n1 c1 : Nat) (a2 : Int) (kg2 : Option Addr) (n2 c2 : Nat) (r : Bool)
    (H : ∀ y, G w y → Calls Try.prog 17 #[.slice kg1 n1 c1, .slice kg2 n2 c2, sameV] y fun e w' => e = .returned (.bool r) ∧ G y w') :
    Calls Try.prog 10 #[.agg (ndL k x a1 (.slice kg1 n1 c1)), .agg (ndL k x a2 (.slice kg2 n2 c2))] w fun e w' => e = .returned (.bool r) ∧ G w w' := by
  have g : G w ((w.alloc (.cells (ndL k x a1 (.slice kg1 n1 c1)) 26)).alloc (.cells (ndL k x a2 (.slice kg2 n2 c2)) 26)) := (G.alloc _ _).more _
  have C := hide (H _ g)
  clear H
  go_enter Try.func10, Try.ntmps10
  go_wp2_with fail
  refine (unhide C).mono ?_
  rintro e w1 ⟨rfl, g2⟩
  have g3 := g.trans g2
  clear g g2 C
  go_wp2_with fail
  go_ret
  exact ⟨rfl, g3⟩
end Go.Proofs.Ythbpmekfgkagiaa
