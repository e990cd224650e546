/- Package tree: does a node fit, and its pattern, of a few kinds. -/
import Derived.Test.YthbpmekfgkagiaaTrF
namespace Go.Proofs.Ythbpmekfgkagiaa
set_option maxRecDepth 100000
open Go.RowKit Go.Maps Go.ChangeShapes Go.WideShapes Go.ChangeAt Go.Deep

abbrev kNum : ByteArray := ⟨#[110, 117, 109, 98, 101, 114]⟩
abbrev kUn : ByteArray := ⟨#[117, 110, 97, 114, 121]⟩
abbrev kBin : ByteArray := ⟨#[98, 105, 110, 97, 114, 121]⟩
abbrev kProg : ByteArray := ⟨#[112, 114, 111, 103, 114, 97, 109]⟩
abbrev kEmp : ByteArray := ⟨#[]⟩
set_option maxHeartbeats 2000000 in
theorem isE_any (k : ByteArray) (h : k = kNum ∨ k = kUn ∨ k = kBin) (w : World) : Calls Try.prog 42 #[.string k] w fun e w' => e = .returned (.bool true) ∧ w' = w := by
  rcases h with rfl | rfl | rfl
  all_goals
    go_enter Try.func42, Try.ntmps42
    go_wp2_with fail
    go_ret
    exact ⟨rfl, rfl⟩
set_option maxHeartbeats 2000000 in
theorem takesE_any (k : ByteArray) (h : k = kNum ∨ k = kUn ∨ k = kBin) (w : World) : Calls Try.prog 50 #[.int .i64 10, .string k] w fun e w' => e = .returned (.bool true) ∧ w' = w := by
  have C := hide (isE_any k h w)
  clear h
  go_enter Try.func50, Try.ntmps50
  go_wp2_with fail
  refine (unhide C).mono ?_
  rintro e w1 ⟨rfl, rfl⟩
  go_wp2_with fail
  go_ret
  exact ⟨rfl, rfl⟩
/-- The kids are as many as the parts, and each is an expression; or they are not as many. -/
theorem are_no (w : World) (ao po : Option Addr) (n c m d : Nat) (h : n ≠ m) : Calls Try.prog 36 #[.slice ao n c, .slice po m d] w fun e w' => e = .returned (.bool false) ∧ w' = w := by
  have h1 : ¬ (n : Int) = (m : Int) := by omega
  go_enter Try.func36, Try.ntmps36
  go_wp2_with fail
  go_ret
  exact ⟨rfl, rfl⟩
set_option maxHeartbeats 2000000 in
theorem are_yes (w : World) (ao po : Option Addr) (m c d : Nat) (hm : m ≤ 1000) (H : ∀ j, j < m → ∃ pb po2 g off k, po = some ⟨pb, po2, none⟩ ∧ ao = some ⟨g, off, none⟩ ∧ w.cell? ⟨pb, po2 + j, none⟩ = some (.int .i64 10) ∧ w.cell? ⟨g, off + j * 4, none⟩ = some (.string k) ∧ (k = kNum ∨ k = kUn ∨ k = kBin)) :
    Calls Try.prog 36 #[.slice ao m c, .slice po m d] w fun e w' => e = .returned (.bool true) ∧ w' = w := by
  replace H := hide H
  go_enter Try.func36, Try.ntmps36
  go_wp2_with fail
  go_loopw [5, 6, 14] (fun _ _ i wr => ∃ n : Nat, n ≤ m ∧ i = .int .i64 (n : Int) ∧ wr = w) (fun _ _ i _ => m - (intOf i).toNat)
  case atStart => exact ⟨0, Nat.zero_le _, rfl, rfl⟩
  case round =>
    obtain ⟨n, hn, rfl, rfl⟩ := hrel
    by_cases hlt : n < m
    · obtain ⟨pb, po2, g, off, k, rfl, rfl, h1, h2, h3⟩ := unhide H n hlt
      have C := hide (takesE_any k h3 wr)
      clear h3
      go_wp2_with fail
      refine (unhide C).mono ?_
      rintro e w1 ⟨rfl, rfl⟩
      go_wp2_with fail
      go_roundw
      case rel => exact ⟨n + 1, by omega, by go_num, by first | trivial | rfl⟩
      case measure => simp [intOf]; omega
    · obtain rfl : n = m := by omega
      clear H
      go_wp2_with fail
      go_ret
      exact ⟨rfl, rfl⟩
theorem all_none (w : World) (ao : Option Addr) (c : Nat) (q : Int) : Calls Try.prog 37 #[.slice ao 0 c, .int .i64 q] w fun e w' => e = .returned (.bool true) ∧ w' = w := by
  go_enter Try.func37, Try.ntmps37
  go_wp2_with fail
  go_loopw [6, 9] (fun _ i wr => i = .int .i64 0 ∧ wr = w) (fun _ _ _ => 0)
  case atStart => exact ⟨rfl, rfl⟩
  case round =>
    obtain ⟨rfl, rfl⟩ := hrel
    go_wp2_with fail
    go_ret
    exact ⟨rfl, rfl⟩
set_option maxHeartbeats 4000000 in
theorem fits_num (w : World) (x : ByteArray) (a : Int) (ao : Option Addr) (c : Nat)  : Calls Try.prog 20 #[.agg (ndL kNum x a (.slice ao 0 c))] w fun e w' => e = .returned (.bool true) ∧ G w w' := by
  have C := hide (are_yes (w.alloc (.cells (ndL kNum x a (.slice ao 0 c)) 26)) ao none 0 c 0 (by omega) (fun j hj => by omega))
  go_enter Try.func20, Try.ntmps20
  go_wp2_with fail
  refine (unhide C).mono ?_
  rintro e w1 ⟨rfl, rfl⟩
  go_wp2_with fail
  go_ret
  exact ⟨rfl, G.alloc _ _⟩
set_option maxHeartbeats 4000000 in
theorem fits_emp (w : World) (x : ByteArray) (a : Int) (ao : Option Addr) (c : Nat)  : Calls Try.prog 20 #[.agg (ndL kEmp x a (.slice ao 0 c))] w fun e w' => e = .returned (.bool false) ∧ G w w' := by
  go_enter Try.func20, Try.ntmps20
  go_wp2_with fail
  go_ret
  exact ⟨rfl, G.alloc _ _⟩
set_option maxHeartbeats 4000000 in
theorem fits_prog (w : World) (x : ByteArray) (a : Int) (ao : Option Addr) (c : Nat)  : Calls Try.prog 20 #[.agg (ndL kProg x a (.slice ao 0 c))] w fun e w' => e = .returned (.bool true) ∧ G w w' := by
  have C := hide (all_none (w.alloc (.cells (ndL kProg x a (.slice ao 0 c)) 26)) ao c 0)
  go_enter Try.func20, Try.ntmps20
  go_wp2_with fail
  refine (unhide C).mono ?_
  rintro e w1 ⟨rfl, rfl⟩
  go_wp2_with fail
  go_ret
  exact ⟨rfl, G.alloc _ _⟩
set_option maxHeartbeats 4000000 in
theorem fits_bin0 (w : World) (x : ByteArray) (a : Int) (ao : Option Addr) (c : Nat)  : Calls Try.prog 20 #[.agg (ndL kBin x a (.slice ao 0 c))] w fun e w' => e = .returned (.bool false) ∧ G w w' := by
  have C := hide (are_no ((w.alloc (.cells (ndL kBin x a (.slice ao 0 c)) 26)).alloc (.cells #[.int .i64 10, .int .i64 10] 68)) ao (some ⟨w.heap.size + 1, 0, none⟩) 0 c 2 2 (by omega))
  go_enter Try.func20, Try.ntmps20
  go_wp2_with fail
  refine (unhide C).mono ?_
  rintro e w1 ⟨rfl, rfl⟩
  go_wp2_with fail
  go_ret
  exact ⟨rfl, (G.alloc _ _).more _⟩
set_option maxHeartbeats 4000000 in
theorem fits_un (w : World) (x : ByteArray) (a : Int) (g c : Nat) (k1 : ByteArray) (h1 : w.cell? ⟨g, 0, none⟩ = some (.string k1)) (e1 : k1 = kNum ∨ k1 = kUn ∨ k1 = kBin) : Calls Try.prog 20 #[.agg (ndL kUn x a (.slice (some ⟨g, 0, none⟩) 1 c))] w fun e w' => e = .returned (.bool true) ∧ G w w' := by
  have gg : G w ((w.alloc (.cells (ndL kUn x a (.slice (some ⟨g, 0, none⟩) 1 c)) 26)).alloc (.cells #[.int .i64 10] 68)) := (G.alloc _ _).more _
  have C := hide (are_yes ((w.alloc (.cells (ndL kUn x a (.slice (some ⟨g, 0, none⟩) 1 c)) 26)).alloc (.cells #[.int .i64 10] 68)) (some ⟨g, 0, none⟩) (some ⟨w.heap.size + 1, 0, none⟩) 1 c 1 (by omega) (fun j hj => by
    have hp : ((w.alloc (.cells (ndL kUn x a (.slice (some ⟨g, 0, none⟩) 1 c)) 26)).alloc (.cells #[.int .i64 10] 68)).cell? ⟨w.heap.size + 1, 0 + j, none⟩ = some (.int .i64 10) := by
      rw [World.cell?_alloc_at _ _ _ _ (by rw [World.size_alloc]), Nat.zero_add]
      obtain rfl : j = 0 := by omega
      rfl
    obtain rfl : j = 0 := by omega
    exact ⟨_, _, g, 0, k1, rfl, rfl, hp, gg.cell h1, e1⟩))
  clear h1 e1
  go_enter Try.func20, Try.ntmps20
  go_wp2_with fail
  refine (unhide C).mono ?_
  rintro e w1 ⟨rfl, rfl⟩
  go_wp2_with fail
  go_ret
  exact ⟨rfl, gg⟩
set_option maxHeartbeats 4000000 in
theorem fits_bin (w : World) (x : ByteArray) (a : Int) (g c : Nat) (k1 : ByteArray) (h1 : w.cell? ⟨g, 0, none⟩ = some (.string k1)) (e1 : k1 = kNum ∨ k1 = kUn ∨ k1 = kBin) (k2 : ByteArray) (h2 : w.cell? ⟨g, 4, none⟩ = some (.string k2)) (e2 : k2 = kNum ∨ k2 = kUn ∨ k2 = kBin) : Calls Try.prog 20 #[.agg (ndL kBin x a (.slice (some ⟨g, 0, none⟩) 2 c))] w fun e w' => e = .returned (.bool true) ∧ G w w' := by
  have gg : G w ((w.alloc (.cells (ndL kBin x a (.slice (some ⟨g, 0, none⟩) 2 c)) 26)).alloc (.cells #[.int .i64 10, .int .i64 10] 68)) := (G.alloc _ _).more _
  have C := hide (are_yes ((w.alloc (.cells (ndL kBin x a (.slice (some ⟨g, 0, none⟩) 2 c)) 26)).alloc (.cells #[.int .i64 10, .int .i64 10] 68)) (some ⟨g, 0, none⟩) (some ⟨w.heap.size + 1, 0, none⟩) 2 c 2 (by omega) (fun j hj => by
    have hp : ((w.alloc (.cells (ndL kBin x a (.slice (some ⟨g, 0, none⟩) 2 c)) 26)).alloc (.cells #[.int .i64 10, .int .i64 10] 68)).cell? ⟨w.heap.size + 1, 0 + j, none⟩ = some (.int .i64 10) := by
      rw [World.cell?_alloc_at _ _ _ _ (by rw [World.size_alloc]), Nat.zero_add]
      have : j = 0 ∨ j = 1 := by omega
      rcases this with rfl | rfl <;> rfl
    have : j = 0 ∨ j = 1 := by omega
    rcases this with rfl | rfl
    · exact ⟨_, _, g, 0, k1, rfl, rfl, hp, gg.cell h1, e1⟩
    · exact ⟨_, _, g, 0, k2, rfl, rfl, hp, gg.cell h2, e2⟩))
  clear h1 e1 h2 e2
  go_enter Try.func20, Try.ntmps20
  go_wp2_with fail
  refine (unhide C).mono ?_
  rintro e w1 ⟨rfl, rfl⟩
  go_wp2_with fail
  go_ret
  exact ⟨rfl, gg⟩
set_option maxHeartbeats 4000000 in
theorem ofE_num (w : World) (x : ByteArray) (a : Int) (kv : Value) (hk : ∃ ao n c, kv = .slice ao n c) : Calls Try.prog 43 #[.agg (ndL kNum x a kv)] w fun e w' => e = .returned (.string ⟨#[36]⟩) ∧ G w w' := by
  obtain ⟨ao, n, c, rfl⟩ := hk
  go_enter Try.func43, Try.ntmps43
  go_wp2_with fail
  go_ret
  exact ⟨rfl, G.alloc _ _⟩
set_option maxHeartbeats 4000000 in
theorem pat_num (w : World) (x : ByteArray) (a : Int) (kv : Value) (hk : ∃ ao n c, kv = .slice ao n c) : Calls Try.prog 22 #[.agg (ndL kNum x a kv)] w fun e w' => e = .returned (.string ⟨#[36]⟩) ∧ G w w' := by
  have C := hide (isE_any kNum (by simp) (w.alloc (.cells (ndL kNum x a kv) 26)))
  have D := hide (ofE_num (w.alloc (.cells (ndL kNum x a kv) 26)) x a kv hk)
  obtain ⟨ao, n, c, rfl⟩ := hk
  go_enter Try.func22, Try.ntmps22
  go_wp2_with fail
  refine (unhide C).mono ?_
  rintro e w1 ⟨rfl, rfl⟩
  go_wp2_with fail
  refine (unhide D).mono ?_
  rintro e w1 ⟨rfl, g⟩
  have g2 := (G.alloc w _).trans g
  clear g C D
  go_wp2_with fail
  go_ret
  exact ⟨rfl, g2⟩
set_option maxHeartbeats 4000000 in
theorem ofE_un (w : World) (x : ByteArray) (a : Int) (kv : Value) (hk : ∃ ao n c, kv = .slice ao n c) : Calls Try.prog 43 #[.agg (ndL kUn x a kv)] w fun e w' => e = .returned (.string ⟨#[40, 36, 32, 48, 41]⟩) ∧ G w w' := by
  obtain ⟨ao, n, c, rfl⟩ := hk
  go_enter Try.func43, Try.ntmps43
  go_wp2_with fail
  go_ret
  exact ⟨rfl, G.alloc _ _⟩
set_option maxHeartbeats 4000000 in
theorem pat_un (w : World) (x : ByteArray) (a : Int) (kv : Value) (hk : ∃ ao n c, kv = .slice ao n c) : Calls Try.prog 22 #[.agg (ndL kUn x a kv)] w fun e w' => e = .returned (.string ⟨#[40, 36, 32, 48, 41]⟩) ∧ G w w' := by
  have C := hide (isE_any kUn (by simp) (w.alloc (.cells (ndL kUn x a kv) 26)))
  have D := hide (ofE_un (w.alloc (.cells (ndL kUn x a kv) 26)) x a kv hk)
  obtain ⟨ao, n, c, rfl⟩ := hk
  go_enter Try.func22, Try.ntmps22
  go_wp2_with fail
  refine (unhide C).mono ?_
  rintro e w1 ⟨rfl, rfl⟩
  go_wp2_with fail
  refine (unhide D).mono ?_
  rintro e w1 ⟨rfl, g⟩
  have g2 := (G.alloc w _).trans g
  clear g C D
  go_wp2_with fail
  go_ret
  exact ⟨rfl, g2⟩
set_option maxHeartbeats 4000000 in
theorem ofE_bin (w : World) (x : ByteArray) (a : Int) (kv : Value) (hk : ∃ ao n c, kv = .slice ao n c) : Calls Try.prog 43 #[.agg (ndL kBin x a kv)] w fun e w' => e = .returned (.string ⟨#[40, 48, 32, 36, 32, 49, 41]⟩) ∧ G w w' := by
  obtain ⟨ao, n, c, rfl⟩ := hk
  go_enter Try.func43, Try.ntmps43
  go_wp2_with fail
  go_ret
  exact ⟨rfl, G.alloc _ _⟩
set_option maxHeartbeats 4000000 in
theorem pat_bin (w : World) (x : ByteArray) (a : Int) (kv : Value) (hk : ∃ ao n c, kv = .slice ao n c) : Calls Try.prog 22 #[.agg (ndL kBin x a kv)] w fun e w' => e = .returned (.string ⟨#[40, 48, 32, 36, 32, 49, 41]⟩) ∧ G w w' := by
  have C := hide (isE_any kBin (by simp) (w.alloc (.cells (ndL kBin x a kv) 26)))
  have D := hide (ofE_bin (w.alloc (.cells (ndL kBin x a kv) 26)) x a kv hk)
  obtain ⟨ao, n, c, rfl⟩ := hk
  go_enter Try.func22, Try.ntmps22
  go_wp2_with fail
  refine (unhide C).mono ?_
  rintro e w1 ⟨rfl, rfl⟩
  go_wp2_with fail
  refine (unhide D).mono ?_
  rintro e w1 ⟨rfl, g⟩
  have g2 := (G.alloc w _).trans g
  clear g C D
  go_wp2_with fail
  go_ret
  exact ⟨rfl, g2⟩
set_option maxHeartbeats 4000000 in
theorem pat_prog (w : World) (x : ByteArray) (a : Int) (kv : Value) (hk : ∃ ao n c, kv = .slice ao n c) : Calls Try.prog 22 #[.agg (ndL kProg x a kv)] w fun e w' => e = .returned (.string ⟨#[42]⟩) ∧ G w w' := by
  obtain ⟨ao, n, c, rfl⟩ := hk
  go_enter Try.func22, Try.ntmps22
  go_wp2_with fail
  go_ret
  exact ⟨rfl, G.alloc _ _⟩
end Go.Proofs.Ythbpmekfgkagiaa
