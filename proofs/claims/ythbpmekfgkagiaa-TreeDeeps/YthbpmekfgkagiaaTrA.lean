/- Package gantlinelaw20: the chapter's tree, and what awake says of it. -/
import Derived.Test.YthbpmekfgkagiaaTrQ
namespace Go.Proofs.Ythbpmekfgkagiaa
set_option maxRecDepth 100000
open Go.RowKit Go.Maps Go.ChangeShapes Go.WideShapes Go.ChangeAt Go.Deep

abbrev sPlus : ByteArray := ⟨#[43]⟩
abbrev sOne : ByteArray := ⟨#[49]⟩
abbrev sTwo : ByteArray := ⟨#[50]⟩
def sumT (a : Int) : T1 := .two sPlus a (.leaf kNum sOne 0) (.leaf kNum sTwo 4)
theorem bn_1 (w : World) : (Instr.build 26 #[(0, .string kNum), (1, .string sOne)]).run Try.prog w = .ok (.agg (ndL kNum sOne 0 (.slice none 0 0))) w := by kernel_rfl
theorem bn_2 (w : World) : (Instr.build 26 #[(0, .string kNum), (1, .string sTwo), (2, .int .i64 4)]).run Try.prog w = .ok (.agg (ndL kNum sTwo 4 (.slice none 0 0))) w := by kernel_rfl
theorem bn_s (g n c : Nat) (w : World) : (Instr.build 26 #[(0, .string kBin), (1, .string sPlus), (2, .int .i64 2), (3, .slice (some ⟨g, 0, none⟩) n c)]).run Try.prog w = .ok (.agg (ndL kBin sPlus 2 (.slice (some ⟨g, 0, none⟩) n c))) w := by kernel_rfl
theorem bn_0 (w : World) : (Instr.build 26 #[]).run Try.prog w = .ok (.agg (ndL kEmp kEmp 0 (.slice none 0 0))) w := by kernel_rfl
/-- What may be asked of a sum. -/
def SumC (w : World) (q : Nat) (a : Int) : Prop := TAt w w.heap.size (sumT a) (.slice (some ⟨q, 0, none⟩) 2 2) ∧ ∀ z, G w z →
  (Calls Try.prog 7 #[.agg (ndL kBin sPlus a (.slice (some ⟨q, 0, none⟩) 2 2))] z fun e w' => e = .returned (.string ⟨#[40, 49, 32, 43, 32, 50, 41]⟩) ∧ G z w') ∧
  (Calls Try.prog 10 #[.agg (ndL kBin sPlus a (.slice (some ⟨q, 0, none⟩) 2 2)), .agg (ndL kEmp kEmp 0 (.slice none 0 0))] z fun e w' => e = .returned (.bool false) ∧ G z w') ∧
  (Calls Try.prog 8 #[.agg (ndL kBin sPlus a (.slice (some ⟨q, 0, none⟩) 2 2))] z fun e w' => e = .returned (.int .i64 3) ∧ G z w') ∧
  (Calls Try.prog 9 #[.agg (ndL kBin sPlus a (.slice (some ⟨q, 0, none⟩) 2 2))] z fun e w' => e = .returned (.int .i64 2) ∧ G z w') ∧
  ∀ q2 a2, TAt z z.heap.size (sumT a2) (.slice (some ⟨q2, 0, none⟩) 2 2) → Calls Try.prog 10 #[.agg (ndL kBin sPlus a (.slice (some ⟨q, 0, none⟩) 2 2)), .agg (ndL kBin sPlus a2 (.slice (some ⟨q2, 0, none⟩) 2 2))] z fun e w' => e = .returned (.bool true) ∧ G z w'
theorem same_leaf (w : World) (k x : ByteArray) (a1 : Int) (ao1 : Option Addr) (c1 : Nat) (a2 : Int) (ao2 : Option Addr) (c2 : Nat) : Calls Try.prog 10 #[.agg (ndL k x a1 (.slice ao1 0 c1)), .agg (ndL k x a2 (.slice ao2 0 c2))] w fun e w' => e = .returned (.bool true) ∧ G w w' :=
  same_yes w k x a1 ao1 0 c1 a2 ao2 0 c2 true (fun y _ => eqf_yes y ao1 ao2 0 c1 c2 (by omega) (fun j hj => by omega))
theorem sum_ok (a : Int) : (sumT a).ok := ⟨⟨Or.inl rfl, Or.inl rfl⟩, ⟨Or.inl rfl, Or.inl rfl⟩⟩
theorem sumC_of {w : World} {q : Nat} {a : Int} (h : TAt w w.heap.size (sumT a) (.slice (some ⟨q, 0, none⟩) 2 2)) : SumC w q a := by
  refine ⟨h, fun z g => ⟨?_, ?_, ?_, ?_, fun q2 a2 h2 => ?_⟩⟩
  · have := show_any (sumT a) z _ (sum_ok a) (TAt.gg h g) (by show (7 : Nat) ≤ _; omega)
    exact this
  · exact same_kind z kBin sPlus a _ 2 2 kEmp kEmp 0 none 0 0 kinds_ne
  · exact size_any (sumT a) z _ (TAt.gg h g) (by show (3 : Nat) ≤ _; omega)
  · exact deep_any (sumT a) z _ (TAt.gg h g) (by show (3 : Nat) ≤ _; omega)
  · have h1 := TAt.gg h g
    obtain ⟨g1, c1, p1, r1, e1, _, hc1, hd1, ⟨u1, v1, hp1⟩, ⟨u2, v2, hp2⟩⟩ := h1
    obtain ⟨g2, c2, p2, r2, e2, _, hc2, hd2, ⟨u3, v3, hp3⟩, ⟨u4, v4, hp4⟩⟩ := h2
    cases e1
    cases e2
    subst hp1 hp2 hp3 hp4
    refine same_yes z kBin sPlus a _ 2 2 a2 _ 2 2 true (fun y gy => eqf_yes y _ _ 2 2 2 (by omega) (fun j hj => ?_))
    have h3 : j = 0 ∨ j = 1 := by omega
    rcases h3 with rfl | rfl
    · exact ⟨q, 0, kNum, sOne, 0, u1, 0, v1, q2, 0, kNum, sOne, 0, u3, 0, v3, rfl, rfl, fun i u hu => by simpa using gy.cell (hc1 i u hu), fun i u hu => by simpa using gy.cell (hc2 i u hu), fun y2 _ => same_leaf y2 kNum sOne 0 u1 v1 0 u3 v3⟩
    · exact ⟨q, 0, kNum, sTwo, 4, u2, 0, v2, q2, 0, kNum, sTwo, 4, u4, 0, v4, rfl, rfl, fun i u hu => by simpa using gy.cell (hd1 i u hu), fun i u hu => by simpa using gy.cell (hd2 i u hu), fun y2 _ => same_leaf y2 kNum sTwo 4 u2 v2 4 u4 v4⟩
theorem hq {W : World} {b : Nat} {l : Array Value} (o : Nat) (k x : ByteArray) (a : Int) (kv : Value) (hd : ∀ i, W.cell? ⟨b, i, none⟩ = l[i]?) (h0 : l[o]? = some (.string k)) (h1 : l[o + 1]? = some (.string x)) (h2 : l[o + 2]? = some (.int .i64 a)) (h3 : l[o + 3]? = some kv) (i : Nat) (u : Value) (hu : (ndL k x a kv)[i]? = some u) : W.cell? ⟨b, o + i, none⟩ = some u := by
  match i, hu with
  | 0, hu => cases hu; exact (hd o).trans h0
  | 1, hu => cases hu; exact (hd (o + 1)).trans h1
  | 2, hu => cases hu; exact (hd (o + 2)).trans h2
  | 3, hu => cases hu; exact (hd (o + 3)).trans h3
  | i + 4, hu => simp at hu
set_option maxHeartbeats 2000000 in
theorem sum_any (w : World) : Calls Try.prog 14 #[] w fun e w' => ∃ q, e = .returned (.agg (ndL kBin sPlus 2 (.slice (some ⟨q, 0, none⟩) 2 2))) ∧ G w w' ∧ Hid (SumC w' q 2) := by
  have b1 := bn_1
  have b2 := bn_2
  have b3 := bn_s (w.heap.size + 1) 2 2
  go_enter Try.func14, Try.ntmps14
  go_wp2_with fail
  obtain ⟨W, hW⟩ : ∃ W, W = (w.alloc (.cells #[.string ⟨#[98, 105, 110, 97, 114, 121]⟩, .string ⟨#[43]⟩, .int .i64 2, .slice (some ⟨w.heap.size + 1, 0, none⟩) 2 2] 26)).alloc (.cells #[.string ⟨#[110, 117, 109, 98, 101, 114]⟩, .string ⟨#[49]⟩, .int .i64 0, .slice none 0 0, .string ⟨#[110, 117, 109, 98, 101, 114]⟩, .string ⟨#[50]⟩, .int .i64 4, .slice none 0 0] 26) := ⟨_, rfl⟩
  have gW : G w W := by rw [hW]; exact (G.alloc _ _).more _
  have zW : W.heap.size = w.heap.size + 2 := by rw [hW, World.size_alloc, World.size_alloc]
  have hc : ∀ i u, #[Value.string ⟨#[98, 105, 110, 97, 114, 121]⟩, .string ⟨#[43]⟩, .int .i64 2, .slice (some ⟨w.heap.size + 1, 0, none⟩) 2 2][i]? = some u → W.cell? ⟨w.heap.size, i, none⟩ = some u := fun i u h => by
    rw [hW, World.cell?_alloc_past _ _ _ (by rw [World.size_alloc]; show w.heap.size < _; omega), World.cell?_alloc_new]; exact h
  have hd : ∀ i, W.cell? ⟨w.heap.size + 1, i, none⟩ = #[Value.string ⟨#[110, 117, 109, 98, 101, 114]⟩, .string ⟨#[49]⟩, .int .i64 0, .slice none 0 0, .string ⟨#[110, 117, 109, 98, 101, 114]⟩, .string ⟨#[50]⟩, .int .i64 4, .slice none 0 0][i]? := fun i => by
    rw [hW, World.cell?_alloc_at _ _ _ _ (by rw [World.size_alloc])]
  have T : TAt W W.heap.size (sumT 2) (.slice (some ⟨w.heap.size + 1, 0, none⟩) 2 2) := ⟨w.heap.size + 1, 2, .slice none 0 0, .slice none 0 0, rfl, by omega, fun i u hu => by simpa using hq 0 _ _ _ _ hd rfl rfl rfl rfl i u hu, hq 4 _ _ _ _ hd rfl rfl rfl rfl, ⟨none, 0, rfl⟩, ⟨none, 0, rfl⟩⟩
  have S := hide (sumC_of T)
  have c0 := hc 0 _ rfl
  have c1 := hc 1 _ rfl
  have c2 := hc 2 _ rfl
  have c3 := hc 3 _ rfl
  rw [← hW]
  clear hW hc hd T zW
  refine bodyPost_ret (by simp [results, Try.results14, go_sem, c0, c1, c2, c3]; try rfl) rfl ?_
  exact ⟨_, rfl, gW, S⟩
end Go.Proofs.Ythbpmekfgkagiaa
