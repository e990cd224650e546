/- Package lex's leaves: what a byte is; a name that is kept; how many bytes of a sort. -/
import Derived.Test.YtablincnlfbjnabDoorRows
import Derived.Test.YtablincnlfbjnabDoorHidT
import Derived.Test.YtablincnlfbjnabDoorLexP
import Derived.WalkKit
import Derived.WalkSpells
import Derived.WalkLawsBesides
import Derived.Deep.QuietTactic
import Derived.BigQuiet
import Derived.Handy
import Derived.OwnWalk
import Derived.Maps.AppendAt
import Derived.Deep.AppendSrc
import Derived.Deep.DeepAppendRoom
import Derived.Deep.Draws
import Derived.Deep.RegionLaw
import Derived.Deep.RegionWith
import Derived.RegionTactic
import Derived.ChangeAlike
import Derived.Below
import Derived.Carry
import Derived.OpenShut
import Derived.ProofKit
import Derived.Lib.SliceRun
import Derived.Lib.Strings
import Derived.Deep.Strs
namespace Go.Proofs.YtablincnlfbjnabDoor
set_option maxRecDepth 100000
open Go.RowKit Go.Maps Go.ChangeShapes Go.WideShapes Go.ChangeAt

set_option maxHeartbeats 1000000 in
theorem blank_any (n : Nat) (w : World) : Calls Tryd.prog 17 #[.int .u8 (n : Int)] w fun e w' => e = .returned (.bool (blankN n)) ∧ w' = w := by
  go_enter Tryd.func17, Tryd.ntmps17
  go_wp2_with fail
  all_goals go_ret
  all_goals exact ⟨congrArg (fun b => Ending.returned (Value.bool b)) (by rw [Bool.eq_iff_iff]; simp [blankN]; try omega), rfl⟩
set_option maxHeartbeats 1000000 in
theorem inLine_any (n : Nat) (w : World) : Calls Tryd.prog 19 #[.int .u8 (n : Int)] w fun e w' => e = .returned (.bool (lineN n)) ∧ w' = w := by
  go_enter Tryd.func19, Tryd.ntmps19
  go_wp2_with fail
  all_goals go_ret
  all_goals exact ⟨congrArg (fun b => Ending.returned (Value.bool b)) (by rw [Bool.eq_iff_iff]; simp [lineN]; try omega), rfl⟩
set_option maxHeartbeats 1000000 in
theorem beginsName_any (n : Nat) (w : World) : Calls Tryd.prog 20 #[.int .u8 (n : Int)] w fun e w' => e = .returned (.bool (letN n)) ∧ w' = w := by
  go_enter Tryd.func20, Tryd.ntmps20
  go_wp2_with fail
  all_goals go_ret
  all_goals exact ⟨congrArg (fun b => Ending.returned (Value.bool b)) (by rw [Bool.eq_iff_iff]; simp [letN]; try omega), rfl⟩
set_option maxHeartbeats 1000000 in
theorem ldigit_any (n : Nat) (w : World) : Calls Tryd.prog 23 #[.int .u8 (n : Int)] w fun e w' => e = .returned (.bool (digN n)) ∧ w' = w := by
  go_enter Tryd.func23, Tryd.ntmps23
  go_wp2_with fail
  all_goals go_ret
  all_goals exact ⟨congrArg (fun b => Ending.returned (Value.bool b)) (by rw [Bool.eq_iff_iff]; simp [digN]; try omega), rfl⟩
set_option maxHeartbeats 1000000 in
theorem inName_any (n : Nat) (w : World) : Calls Tryd.prog 22 #[.int .u8 (n : Int)] w fun e w' => e = .returned (.bool (nmN n)) ∧ w' = w := by
  cases hl : letN n
  all_goals cases hd : digN n
  all_goals
    have A := beginsName_any n
    have B := ldigit_any n
    rw [hl] at A
    rw [hd] at B
    have e : nmN n = (letN n || digN n) := rfl
    rw [e, hl, hd]
    clear e hl hd
    go_enter Tryd.func22, Tryd.ntmps22
    go_wp2_with (first | (refine (A _).mono ?_; rintro e w' ⟨rfl, rfl⟩) | (refine (B _).mono ?_; rintro e w' ⟨rfl, rfl⟩))
    go_ret
    exact ⟨rfl, rfl⟩

set_option maxHeartbeats 4000000 in
theorem kept_any (s : ByteArray) (w : World) : Calls Tryd.prog 37 #[.string s] w fun e w' => e = .returned (.bool (keptP s.data.toList)) ∧ w' = w := by
  obtain ⟨q, hq⟩ : ∃ q, q = keptP s.data.toList := ⟨_, rfl⟩
  have hq2 := hide hq
  rw [← hq]
  clear hq
  go_enter Tryd.func37, Tryd.ntmps37
  go_wp2_with fail
  all_goals go_ret
  all_goals
    have hq := unhide hq2
    clear hq2
    rw [← Lib.toList_data] at hq
    first
      | (exfalso; simp_all only [reduceCtorEq]; done)
      | (refine ⟨?_, rfl⟩; subst hq; simp only [keptP, keptL, List.contains_cons, List.contains_nil, Bool.true_or, Bool.or_true, Bool.or_false, *]; rfl)
end Go.Proofs.YtablincnlfbjnabDoor
