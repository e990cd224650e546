/- The program's parser: part (laid by py/par_.py). -/
import Derived.Test.YtablincnlfbjnabDoorPaF
namespace Go.Proofs.YtablincnlfbjnabDoor
set_option maxRecDepth 100000
open Go.RowKit Go.Maps Go.ChangeShapes Go.WideShapes Go.ChangeAt Go.Deep

def ntStr : Nt → List UInt8
  | .params => [112, 97, 114, 97, 109, 115]
  | .type => [116, 121, 112, 101]
  | .typeOr => [91, 116, 121, 112, 101, 93]
  | .block => [98, 108, 111, 99, 107]
  | .elseOr => [91, 101, 108, 115, 101, 93]
  | .expr => [101, 120, 112, 114]
  | .exprOr => [91, 101, 120, 112, 114, 93]
  | .call => [99, 97, 108, 108]
  | .unary => [117, 110, 97, 114, 121]
  | .inside => [105, 110, 115, 105, 100, 101]
  | _ => []
def ntF : Nt → Nat
  | .params => 47
  | .type => 48
  | .typeOr => 49
  | .block => 50
  | .elseOr => 51
  | .expr => 46
  | .exprOr => 52
  | .call => 53
  | .unary => 54
  | .inside => 31
  | .field => 35
  | .stmt => 75
  | .choice => 79
  | .decl => 15
  | .param => 59
def isPart : Nt → Bool
  | .params => true
  | .type => true
  | .typeOr => true
  | .block => true
  | .elseOr => true
  | .expr => true
  | .exprOr => true
  | .call => true
  | .unary => true
  | .inside => true
  | _ => false
theorem ntF_ent (n : Nt) : Ent (ntF n) := by
  cases n <;> (intro args w; rfl)

set_option maxHeartbeats 4000000 in
theorem part_yes (n : Nt) (h : isPart n = true) (p : Value) (y : World) : Calls Tryd.prog 32 #[p, .string ⟨(ntStr n).toArray⟩] y fun e w' => e = .returned (.func (.func (ntF n)) #[p] #[]) ∧ w' = y := by
  cases n <;> first | (cases h; done) | (
    simp only [ntStr, ntF]
    go_enter Tryd.func32, Tryd.ntmps32
    go_wp2_with fail
    go_ret
    exact ⟨rfl, rfl⟩)
def noPart (t : List UInt8) : Prop := (t == [112, 97, 114, 97, 109, 115]) = false ∧ (t == [116, 121, 112, 101]) = false ∧ (t == [91, 116, 121, 112, 101, 93]) = false ∧ (t == [98, 108, 111, 99, 107]) = false ∧ (t == [91, 101, 108, 115, 101, 93]) = false ∧ (t == [101, 120, 112, 114]) = false ∧ (t == [91, 101, 120, 112, 114, 93]) = false ∧ (t == [99, 97, 108, 108]) = false ∧ (t == [117, 110, 97, 114, 121]) = false ∧ (t == [105, 110, 115, 105, 100, 101]) = false
set_option maxHeartbeats 4000000 in
theorem part_no (t : List UInt8) (h : noPart t) (p : Value) (y : World) : Calls Tryd.prog 32 #[p, .string ⟨t.toArray⟩] y fun e w' => e = .returned .nilFunc ∧ w' = y := by
  obtain ⟨h0, h1, h2, h3, h4, h5, h6, h7, h8, h9⟩ := h
  go_enter Tryd.func32, Tryd.ntmps32
  go_wp2_with fail
  go_ret
  exact ⟨rfl, rfl⟩
end Go.Proofs.YtablincnlfbjnabDoor
