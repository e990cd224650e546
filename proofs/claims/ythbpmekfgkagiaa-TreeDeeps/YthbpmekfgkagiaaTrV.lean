/- Package gantlinelaw20: TreeKnown answers true. -/
import Derived.Test.YthbpmekfgkagiaaTrW
namespace Go.Proofs.Ythbpmekfgkagiaa
set_option maxRecDepth 100000
open Go.RowKit Go.Maps Go.ChangeShapes Go.WideShapes Go.ChangeAt Go.Deep

theorem bn_b (w : World) : (Instr.build 26 #[(0, .string kBin), (1, .string sPlus)]).run Try.prog w = .ok (.agg (ndL kBin sPlus 0 (.slice none 0 0))) w := by kernel_rfl
theorem bn_p (w : World) : (Instr.build 26 #[(0, .string kProg)]).run Try.prog w = .ok (.agg (ndL kProg kEmp 0 (.slice none 0 0))) w := by kernel_rfl
theorem bn_k (g : Nat) (n c : Nat) (w : World) : (Instr.build 26 #[(3, .slice (some ⟨g, 0, none⟩) n c)]).run Try.prog w = .ok (.agg (ndL kEmp kEmp 0 (.slice (some ⟨g, 0, none⟩) n c))) w := by kernel_rfl
theorem shown_leaf (k x : ByteArray) (h : k = kEmp ∨ k = kProg ∨ k = kBin) (w : World) : Calls Try.prog 7 #[.agg (ndL k x 0 (.slice none 0 0))] w fun e w' => e = .returned (.string ⟨#[]⟩) ∧ G w w' := by
  have hk : ¬ k = kNum := by rcases h with rfl | rfl | rfl <;> decide
  have e : shP 0 (.leaf k x 0) = [] := by
    show (if 199 < 0 then [] else if k = kNum then x.data.toList else []) = []
    rw [if_neg (by omega), if_neg hk]
  have H := show_any (.leaf k x 0) w (.slice none 0 0) (Or.inr (by rcases h with h | h | h; exact Or.inl h; exact Or.inr (Or.inl h); exact Or.inr (Or.inr h))) ⟨none, 0, rfl⟩ (by rw [e]; exact Nat.zero_le _)
  rw [e] at H
  exact H
set_option maxHeartbeats 4000000 in
theorem known20 (w : World) : Calls Try.prog 3 #[] w fun e w' => e = .returned (.bool true) ∧ G w w' := by
  have CA := hide awake20
  have S0 := hide (shown_leaf kEmp kEmp (Or.inl rfl))
  have S1 := hide (shown_leaf kBin sPlus (Or.inr (Or.inr rfl)))
  have S2 := hide (shown_leaf kProg kEmp (Or.inr (Or.inl rfl)))
  have Z := hide fun y => size_any (.leaf kEmp kEmp 0) y (.slice none 0 0) ⟨none, 0, rfl⟩ (by show 1 ≤ _; omega)
  have D := hide fun y => deep_any (.leaf kEmp kEmp 0) y (.slice none 0 0) ⟨none, 0, rfl⟩ (by show 1 ≤ _; omega)
  have SA := hide fun y g c => same_leaf y kEmp kEmp 0 none 0 0 (some ⟨g, 0, none⟩) c
  have b0 := bn_0
  have bb := bn_b
  have bp := bn_p
  have bk := bn_k
  go_enter Try.func3, Try.ntmps3
  go_wp2_with fail
  refine (unhide CA _).mono ?_
  rintro e w1 ⟨rfl, g1⟩
  replace g1 := hide g1
  go_wp2_with fail
  refine (unhide S0 _).mono ?_
  rintro e w2 ⟨rfl, g⟩
  replace g1 := hide ((unhide g1).trans g)
  clear g
  go_wp2_with fail
  refine (unhide S1 _).mono ?_
  rintro e w3 ⟨rfl, g⟩
  replace g1 := hide ((unhide g1).trans g)
  clear g
  go_wp2_with fail
  refine (unhide S2 _).mono ?_
  rintro e w4 ⟨rfl, g⟩
  replace g1 := hide ((unhide g1).trans g)
  clear g
  go_wp2_with fail
  refine (unhide Z _).mono ?_
  rintro e w5 ⟨rfl, g⟩
  replace g1 := hide ((unhide g1).trans g)
  clear g
  go_wp2_with fail
  refine (unhide D _).mono ?_
  rintro e w6 ⟨rfl, g⟩
  replace g1 := hide ((unhide g1).trans g)
  clear g
  go_wp2_with fail
  refine (unhide SA _ _ _).mono ?_
  rintro e w7 ⟨rfl, g⟩
  have g2 := hide ((unhide g1).trans ((G.alloc _ _).trans g))
  clear g g1
  go_wp2_with fail
  go_ret
  exact ⟨rfl, unhide g2⟩
end Go.Proofs.Ythbpmekfgkagiaa
