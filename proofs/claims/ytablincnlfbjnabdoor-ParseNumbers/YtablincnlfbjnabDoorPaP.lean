/- The program's parser, plain: words, the reader's state, what each call answers. -/
import Derived.Test.YtablincnlfbjnabDoorLexP
namespace Go.Proofs.YtablincnlfbjnabDoor
set_option maxRecDepth 100000
open Go.RowKit

/-- A tree. -/
inductive Tt where
  | mk (k x : List UInt8) (a : Int) (ks : List Tt)
def Tt.k : Tt → List UInt8
  | .mk k _ _ _ => k
def Tt.x : Tt → List UInt8
  | .mk _ x _ _ => x
def Tt.a : Tt → Int
  | .mk _ _ a _ => a
def Tt.ks : Tt → List Tt
  | .mk _ _ _ ks => ks
/-- The reader: at which word, how deep, the first fault's place, the first fault. -/
structure PS where
  k : Nat
  d : Int
  a : Int
  e : Int
section
variable (ws : List Wd)
def wdAt (s : PS) : Wd := ws.getD s.k ⟨0, [], 0⟩
def pFault (er : Int) (s : PS) : PS := ⟨ws.length - 1, s.d, if s.e = 0 then ((wdAt ws s).o : Int) else s.a, if s.e = 0 then er else s.e⟩
def pPass (s : PS) : PS := if 60 < s.d then pFault ws 2 s else ⟨min (s.k + 1) (ws.length - 1), s.d, s.a, s.e⟩
def pIs (t : List UInt8) (s : PS) : Bool := decide ((wdAt ws s).x = t)
def pTake (t : List UInt8) (s : PS) : Bool × PS := if pIs ws t s then (true, pPass ws s) else (false, s)
def pNeed (t : List UInt8) (s : PS) : PS := if pIs ws t s then pPass ws s else pFault ws 6 s
def pText (kd : Nat) (s : PS) : List UInt8 × PS := if (wdAt ws s).k = kd then ((wdAt ws s).x, pPass ws s) else ([], pFault ws 6 s)
def pSign (s : PS) : List UInt8 × PS := ((wdAt ws s).x, pPass ws s)
def pUp (s : PS) : PS := ⟨s.k, wrap64 (s.d + 1), s.a, s.e⟩
def pDown (s : PS) : PS := ⟨s.k, wrap64 (s.d - 1), s.a, s.e⟩
def pDeeper (f : PS → Tt × PS) (s : PS) : Tt × PS := ((f (pUp s)).1, pDown (f (pUp s)).2)
def mu (s : PS) : Nat := ws.length - 1 - s.k
/-- Parts up to a sign that closes them. -/
def pUntil (t : List UInt8) (f : PS → Tt × PS) : Nat → PS → List Tt × PS
  | 0, s => ([], s)
  | n + 1, s =>
    if s.e = 0 then
      if pIs ws t s then ([], pPass ws s)
      else ((f s).1 :: (pUntil t f n (f s).2).1, (pUntil t f n (f s).2).2)
    else ([], s)
/-- Further parts, each behind a comma. -/
def pMore (f : PS → Tt × PS) : Nat → PS → List Tt × PS
  | 0, s => ([], s)
  | n + 1, s =>
    if pIs ws [44] s then ((f (pPass ws s)).1 :: (pMore f n (f (pPass ws s)).2).1, (pMore f n (f (pPass ws s)).2).2)
    else ([], s)
def pList (f : PS → Tt × PS) (s : PS) : List Tt × PS :=
  if pIs ws [41] s then ([], s)
  else ((f s).1 :: (pMore ws f (ws.length) (f s).2).1, (pMore ws f (ws.length) (f s).2).2)
/-- What a part's row is made of. -/
inductive Nt where
  | params | type | typeOr | block | elseOr | expr | exprOr | call | unary | inside | field | stmt | choice | decl | param
  deriving DecidableEq
inductive Fd where
  | name | number | sign | args | part (n : Nt) | word (t : List UInt8)
variable (R : Nt → PS → Tt × PS)
def fdStep (f : Fd) (r : (List UInt8 × List Tt) × PS) : (List UInt8 × List Tt) × PS :=
  match f with
  | .name => (((pText ws 1 r.2).1, r.1.2), (pText ws 1 r.2).2)
  | .number => (((pText ws 3 r.2).1, r.1.2), (pText ws 3 r.2).2)
  | .sign => (((pSign ws r.2).1, r.1.2), (pSign ws r.2).2)
  | .args => ((r.1.1, r.1.2 ++ (pList ws (R .inside) r.2).1), (pList ws (R .inside) r.2).2)
  | .part n => ((r.1.1, r.1.2 ++ [(R n r.2).1]), (R n r.2).2)
  | .word t => (r.1, pNeed ws t r.2)
def fdRun : List Fd → (List UInt8 × List Tt) × PS → (List UInt8 × List Tt) × PS
  | [], r => r
  | f :: fs, r => fdRun fs (fdStep ws R f r)
def pRow (kind : List UInt8) (fs : List Fd) (kids : List Tt) (s : PS) : Tt × PS :=
  (.mk kind (fdRun ws R fs (([], kids), s)).1.1 ((wdAt ws s).o : Int) (fdRun ws R fs (([], kids), s)).1.2, (fdRun ws R fs (([], kids), s)).2)
end
end Go.Proofs.YtablincnlfbjnabDoor
