/- Modules, plain: what they are made of, and that their numbers are ints. -/
import Derived.Test.YtnliooflpclcbaaGreatDoorHidT
import Derived.WalkKit
namespace Go.Proofs.YtnliooflpclcbaaGreatDoor
set_option maxRecDepth 100000
open Go.RowKit

/-- A number. -/
def oU (u : Nat) : Prop := u < 18446744073709551616
/-- A number with a sign. -/
def oI (v : Int) : Prop := -9223372036854775808 ≤ v ∧ v ≤ 9223372036854775807
def oB (_ : Bool) : Prop := True
def oL {α : Type} (o : α → Prop) (l : List α) : Prop := oU l.length ∧ ∀ a ∈ l, o a
/-- A shape, a case, an instruction, a function, a module. -/
structure Sp where
  k : Int
  f : Int
  m : Nat
structure Ca where
  k : Int
  c : Int
  v : Int
  t : Int
structure In where
  op : Int
  a : Int
  b : Int
  c : Int
  d : Int
structure Fn where
  p : Int
  c : Int
  s : Int
  r : Int
  ks : List Bool
  is : List In
  ms : List Nat
structure Md where
  sh : List Sp
  gl : List Bool
  co : List Int
  ca : List Ca
  fn : List Fn
  main : Int
def oSp (s : Sp) : Prop := oI s.k ∧ oI s.f ∧ oU s.m
def oCa (s : Ca) : Prop := oI s.k ∧ oI s.c ∧ oI s.v ∧ oI s.t
def oIn (s : In) : Prop := oI s.op ∧ oI s.a ∧ oI s.b ∧ oI s.c ∧ oI s.d
def oFn (s : Fn) : Prop := oI s.p ∧ oI s.c ∧ oI s.s ∧ oI s.r ∧ oL oB s.ks ∧ oL oIn s.is ∧ oL oU s.ms
def oMd (s : Md) : Prop := oL oSp s.sh ∧ oL oB s.gl ∧ oL oI s.co ∧ oL oCa s.ca ∧ oL oFn s.fn ∧ oI s.main
end Go.Proofs.YtnliooflpclcbaaGreatDoor
