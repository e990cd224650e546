/- PLAIN: what may be run (chapter 12): an instruction's rules, one by one. -/
import Derived.Test.YtnliooflpclcbaaGreatDoorLiveLeaf
import Derived.Test.YtnliooflpclcbaaGreatDoorVfRoles
namespace Go.Proofs.YtnliooflpclcbaaGreatDoor
set_option maxRecDepth 100000
open Go.RowKit

def inR (v n : Int) : Bool := decide (0 ≤ v) && decide (v < n)
/-- Rule 4. -/
def slotP (s : Int) (r : Nat) (v : Int) : Bool := if r = 1 ∨ r = 2 ∨ r = 3 then inR v s else if r = 4 ∨ r = 5 then (v == -1) || inR v s else true
def caseP (s : Int) (c : Ca) : Bool := if c.k = 0 then slotP s 1 c.c && slotP s 4 c.v else if c.k = 1 then slotP s 1 c.c && slotP s 1 c.v else true
def runT (s first count : Int) : Bool := decide (count ≤ 0) || (inR first s && decide (count ≤ s - first))
/-- An instruction with all that it names; ks: what a run's kinds must be; cs: a select's cases. -/
structure It where
  i : In
  r : R4
  first : Int
  count : Int
  ks : List Bool
  cs : List Ca
def roleAt (r : R4) (k : Nat) : Nat := match k with | 0 => r.1 | 1 => r.2.1 | 2 => r.2.2.1 | _ => r.2.2.2
def operAt (i : In) (k : Nat) : Int := match k with | 0 => i.a | 1 => i.b | 2 => i.c | _ => i.d
def all4 (p : Nat → Bool) : Bool := p 0 && (p 1 && (p 2 && p 3))
def slotsP (s : Int) (x : It) : Bool := all4 (fun k => slotP s (roleAt x.r k) (operAt x.i k)) && (x.cs.all (caseP s) && runT s x.first x.count)
/-- Rule 5. -/
def shapeP (m : Md) (v k : Int) : Bool := inR v m.sh.length && (match m.sh[v.toNat]? with | some s => decide (s.k = k) | none => false)
def isP (m : Md) (r : Nat) (v : Int) : Bool :=
  if r = 8 then inR v m.co.length else if r = 9 then shapeP m v 0 else if r = 10 then shapeP m v 1 else if r = 11 then shapeP m v 3
  else if r = 12 then inR v m.gl.length else if r = 13 then inR v m.fn.length else if r = 14 then decide (1 ≤ v) && decide (v ≤ 6) else if r = 7 then decide (0 ≤ v) else true
def goodK (c : Ca) : Bool := c.k == 0 || c.k == 1 || c.k == 2
def casesP' (l : List Ca) : Bool := l.all goodK && (decide (0 < l.length) && decide ((l.filter fun c => c.k == 2).length ≤ 1))
/-- Rule 6. -/
def kindP (ks : List Bool) (r : Nat) (v : Int) : Bool := if r = 2 then !(ks[v.toNat]?).getD false else if r = 5 then (v == -1) || !(ks[v.toNat]?).getD false else if r = 3 then (ks[v.toNat]?).getD false else true
def resP (ks : List Bool) (r v : Int) : Bool := if r = 1 then !(ks[v.toNat]?).getD false else if r = 2 then (ks[v.toNat]?).getD false else false
/-- The places that it names. -/
def tg4 (x : It) (k : Nat) : List Int := if roleAt x.r k = 15 then [operAt x.i k] else []
def targP (x : It) : List Int := (tg4 x 0 ++ (tg4 x 1 ++ (tg4 x 2 ++ tg4 x 3))) ++ x.cs.map fun c => c.t
end Go.Proofs.YtnliooflpclcbaaGreatDoor
