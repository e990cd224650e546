/- The program's parser, plain: its grammar (laid by py/pap.py). -/
import Derived.Test.YtablincnlfbjnabDoorPaP
namespace Go.Proofs.YtablincnlfbjnabDoor
set_option maxRecDepth 100000
open Go.RowKit

section
variable (ws : List Wd) (R : Nt → PS → Tt × PS)
def noneP (s : PS) : Tt × PS := pRow ws R [110, 111, 110, 101] [] [] s
/-- .. with its kids behind it. -/
def withKids (n : Tt) (l : List Tt × PS) : Tt × PS := (.mk n.k n.x n.a l.1, l.2)
def typeOrR (T : PS → Tt × PS) (s : PS) : Tt × PS :=
  if (wdAt ws s).x = [105, 110, 116] then T s else if (wdAt ws s).x = [98, 111, 111, 108] then T s else if (wdAt ws s).x = [91] then T s else if (wdAt ws s).x = [99, 104, 97, 110] then T s else if (wdAt ws s).x = [102, 117, 110, 99] then T s else if (wdAt ws s).k = 1 then T s else noneP ws R s
def fnP (s : PS) : Tt × PS :=
  let n := pRow ws R [102, 110] [.word [102, 117, 110, 99], .word [40]] [] s
  let l := pList ws (R .type) n.2
  let r := R .typeOr (pNeed ws [41] l.2)
  (.mk n.1.k n.1.x n.1.a (r.1 :: l.1), r.2)
def typItP (s : PS) : Tt × PS :=
  if (wdAt ws s).x = [105, 110, 116] then pRow ws R [105, 110, 116] [.word [105, 110, 116]] [] s
  else if (wdAt ws s).x = [98, 111, 111, 108] then pRow ws R [98, 111, 111, 108] [.word [98, 111, 111, 108]] [] s
  else if (wdAt ws s).x = [91] then pRow ws R [108, 105, 115, 116] [.word [91], .word [93], .part .type] [] s
  else if (wdAt ws s).x = [99, 104, 97, 110] then pRow ws R [99, 104, 97, 110] [.word [99, 104, 97, 110], .part .type] [] s
  else if (wdAt ws s).x = [102, 117, 110, 99] then fnP ws R s
  else pRow ws R [110, 97, 109, 101, 100] [.name] [] s
def typP (s : PS) : Tt × PS := pDeeper (typItP ws R) s
def typeOrP (s : PS) : Tt × PS := typeOrR ws R (typP ws R) s
def tab1 : Nt → PS → Tt × PS
  | .type => typP ws R
  | n => R n
def paramP (s : PS) : Tt × PS := pRow ws (tab1 ws R) [112, 97, 114, 97, 109] [.name, .part .type] [] s
def paramsP (s : PS) : Tt × PS :=
  let n := pRow ws R [112, 97, 114, 97, 109, 115] [] [] s
  withKids n.1 (pList ws (paramP ws R) n.2)
def blockItP (s : PS) : Tt × PS :=
  let n := pRow ws R [98, 108, 111, 99, 107] [.word [123]] [] s
  withKids n.1 (pUntil ws [125] (R .stmt) (ws.length + 1) n.2)
def blockP (s : PS) : Tt × PS := pDeeper (blockItP ws R) s
def primP (s : PS) : Tt × PS :=
  if (wdAt ws s).k = 3 then pRow ws R [110, 117, 109, 98, 101, 114] [.number] [] s
  else if (wdAt ws s).x = [116, 114, 117, 101] then pRow ws R [116, 114, 117, 101] [.word [116, 114, 117, 101]] [] s
  else if (wdAt ws s).x = [102, 97, 108, 115, 101] then pRow ws R [102, 97, 108, 115, 101] [.word [102, 97, 108, 115, 101]] [] s
  else if (wdAt ws s).x = [110, 105, 108] then pRow ws R [110, 105, 108] [.word [110, 105, 108], .word [40], .part .type, .word [41]] [] s
  else if (wdAt ws s).x = [110, 101, 119] then pRow ws R [110, 101, 119] [.word [110, 101, 119], .name] [] s
  else if (wdAt ws s).x = [109, 97, 107, 101] then pRow ws R [109, 97, 107, 101] [.word [109, 97, 107, 101], .word [40], .part .type, .word [44], .part .inside, .word [41]] [] s
  else if (wdAt ws s).x = [108, 101, 110] then pRow ws R [108, 101, 110] [.word [108, 101, 110], .word [40], .part .inside, .word [41]] [] s
  else if (wdAt ws s).x = [114, 101, 99, 118] then pRow ws R [114, 101, 99, 118] [.word [114, 101, 99, 118], .word [40], .part .inside, .word [41]] [] s
  else if (wdAt ws s).x = [102, 117, 110, 99] then pRow ws R [108, 97, 109, 98, 100, 97] [.word [102, 117, 110, 99], .word [40], .part .params, .word [41], .part .typeOr, .part .block] [] s
  else if (wdAt ws s).x = [40] then ((R .inside (pPass ws s)).1, pNeed ws [41] (R .inside (pPass ws s)).2)
  else pRow ws R [110, 97, 109, 101] [.name] [] s
def pPost : Nat → Tt × PS → Tt × PS
  | 0, r => r
  | n + 1, r =>
    if (wdAt ws r.2).x = [40] then pPost n (pRow ws R [99, 97, 108, 108] [.word [40], .args, .word [41]] [r.1] r.2)
    else if (wdAt ws r.2).x = [91] then pPost n (pRow ws R [105, 110, 100, 101, 120] [.word [91], .part .inside, .word [93]] [r.1] r.2)
    else if (wdAt ws r.2).x = [46] then pPost n (pRow ws R [100, 111, 116] [.word [46], .name] [r.1] r.2)
    else r
def postP (s : PS) : Tt × PS := pPost ws R ws.length (primP ws R s)
def signedP (s : PS) : Tt × PS := pRow ws R [117, 110, 97, 114, 121] [.sign, .part .unary] [] s
def unaryP (s : PS) : Tt × PS := if pIs ws [45] s then pDeeper (signedP ws R) s else if pIs ws [33] s then pDeeper (signedP ws R) s else postP ws R s
def rowOfP (x : List UInt8) : Nat :=
  if x = [124, 124] then 1 else if x = [38, 38] then 2
  else if x = [61, 61] then 3 else if x = [33, 61] then 3 else if x = [60] then 3 else if x = [60, 61] then 3 else if x = [62] then 3 else if x = [62, 61] then 3
  else if x = [43] then 4 else if x = [45] then 4 else if x = [124] then 4 else if x = [94] then 4
  else if x = [42] then 5 else if x = [47] then 5 else if x = [37] then 5 else if x = [60, 60] then 5 else if x = [62, 62] then 5 else if x = [38] then 5
  else 0
/-- The rounds of a row of operators: B reads what is tighter. -/
def pBin (row : Nat) (B : PS → Tt × PS) : Nat → Tt × PS → Tt × PS
  | 0, r => r
  | n + 1, r =>
    if rowOfP (wdAt ws r.2).x = row then
      let l := pRow ws R [98, 105, 110, 97, 114, 121] [.sign] [r.1] r.2
      let q := B l.2
      let t := (Tt.mk l.1.k l.1.x l.1.a (l.1.ks ++ [q.1]), q.2)
      if row = 3 then t else pBin row B n t
    else r
/-- binP j: row 6 - j. -/
def binP : Nat → PS → Tt × PS
  | 0, s => unaryP ws R s
  | j + 1, s => pBin ws R (5 - j) (binP j) ws.length (binP j s)
def exprP (s : PS) : Tt × PS := binP ws R 5 s
def insideP (s : PS) : Tt × PS := pDeeper (exprP ws R) s
def exprOrP (s : PS) : Tt × PS := if pIs ws [59] s then noneP ws R s else exprP ws R s
def callP (s : PS) : Tt × PS :=
  let n := exprP ws R s
  if n.1.k = [99, 97, 108, 108] then n else (n.1, pFault ws 6 n.2)
def tab2 : Nt → PS → Tt × PS
  | .type => typP ws R
  | .typeOr => typeOrP ws R
  | .params => paramsP ws R
  | .block => blockP ws R
  | .expr => exprP ws R
  | .inside => insideP ws R
  | n => R n
def elseOrP (s : PS) : Tt × PS := if pIs ws [101, 108, 115, 101] s then R .block (pPass ws s) else noneP ws R s
def doSetP (s : PS) : Tt × PS :=
  let n := pRow ws (tab2 ws R) [100, 111] [.part .expr] [] s
  if pIs ws [61] n.2 then pRow ws R [115, 101, 116] [.word [61], .part .expr, .word [59]] n.1.ks n.2
  else (n.1, pNeed ws [59] n.2)
def stmtP (s : PS) : Tt × PS :=
  if (wdAt ws s).x = [123] then blockP ws R s
  else if (wdAt ws s).x = [118, 97, 114] then pRow ws R [108, 101, 116] [.word [118, 97, 114], .name, .part .type, .word [61], .part .expr, .word [59]] [] s
  else if (wdAt ws s).x = [105, 102] then pRow ws R [105, 102] [.word [105, 102], .part .expr, .part .block, .part .elseOr] [] s
  else if (wdAt ws s).x = [119, 104, 105, 108, 101] then pRow ws R [119, 104, 105, 108, 101] [.word [119, 104, 105, 108, 101], .part .expr, .part .block] [] s
  else if (wdAt ws s).x = [114, 101, 116, 117, 114, 110] then pRow ws R [114, 101, 116, 117, 114, 110] [.word [114, 101, 116, 117, 114, 110], .part .exprOr, .word [59]] [] s
  else if (wdAt ws s).x = [112, 114, 105, 110, 116] then pRow ws R [112, 114, 105, 110, 116] [.word [112, 114, 105, 110, 116], .part .expr, .word [59]] [] s
  else if (wdAt ws s).x = [99, 108, 111, 115, 101] then pRow ws R [99, 108, 111, 115, 101] [.word [99, 108, 111, 115, 101], .part .expr, .word [59]] [] s
  else if (wdAt ws s).x = [103, 111] then pRow ws R [103, 111] [.word [103, 111], .part .call, .word [59]] [] s
  else if (wdAt ws s).x = [115, 101, 110, 100] then pRow ws R [115, 101, 110, 100] [.word [115, 101, 110, 100], .part .expr, .word [44], .part .expr, .word [59]] [] s
  else if (wdAt ws s).x = [115, 101, 108, 101, 99, 116] then
    let n := pRow ws R [115, 101, 108, 101, 99, 116] [.word [115, 101, 108, 101, 99, 116], .word [123]] [] s
    withKids n.1 (pUntil ws [125] (R .choice) (ws.length + 1) n.2)
  else doSetP ws R s
def sendRecvP (s : PS) : Tt × PS :=
  if pIs ws [115, 101, 110, 100] s then pRow ws (tab2 ws R) [111, 110, 115, 101, 110, 100] [.word [115, 101, 110, 100], .part .expr, .word [44], .part .expr, .part .block] [] s
  else pRow ws (tab2 ws R) [111, 110, 114, 101, 99, 118] [.word [114, 101, 99, 118], .name, .word [61], .part .expr, .part .block] [] s
def choiceP (s : PS) : Tt × PS :=
  if pIs ws [100, 101, 102, 97, 117, 108, 116] s then pRow ws R [100, 101, 102, 97, 117, 108, 116] [.word [100, 101, 102, 97, 117, 108, 116], .part .block] [] s
  else
    let n := sendRecvP ws R (pNeed ws [99, 97, 115, 101] s)
    (.mk n.1.k n.1.x ((wdAt ws s).o : Int) n.1.ks, n.2)
def fieldP (s : PS) : Tt × PS := pRow ws (tab2 ws R) [102, 105, 101, 108, 100] [.name, .part .type, .word [59]] [] s
def declP (s : PS) : Tt × PS :=
  if (wdAt ws s).x = [115, 116, 114, 117, 99, 116] then
    let n := pRow ws R [115, 116, 114, 117, 99, 116] [.word [115, 116, 114, 117, 99, 116], .name, .word [123]] [] s
    withKids n.1 (pUntil ws [125] (R .field) (ws.length + 1) n.2)
  else if (wdAt ws s).x = [118, 97, 114] then pRow ws R [103, 108, 111, 98, 97, 108] [.word [118, 97, 114], .name, .part .type, .word [59]] [] s
  else pRow ws (tab2 ws R) [102, 117, 110, 99] [.word [102, 117, 110, 99], .name, .word [40], .part .params, .word [41], .part .typeOr, .part .block] [] s
/-- One level more. -/
def levP (n : Nt) (s : PS) : Tt × PS :=
  match n with
  | .params => paramsP ws R s
  | .type => typP ws R s
  | .typeOr => typeOrP ws R s
  | .block => blockP ws R s
  | .elseOr => elseOrP ws R s
  | .expr => exprP ws R s
  | .exprOr => exprOrP ws R s
  | .call => callP ws R s
  | .unary => unaryP ws R s
  | .inside => insideP ws R s
  | .field => fieldP ws R s
  | .stmt => stmtP ws R s
  | .choice => choiceP ws R s
  | .decl => declP ws R s
  | .param => paramP ws R s
end
def runP (ws : List Wd) : Nat → Nt → PS → Tt × PS
  | 0, _, s => (.mk [] [] 0 [], pFault ws 6 s)
  | M + 1, n, s => levP ws (runP ws M) n s
/-- The program's rounds. -/
def pProg (ws : List Wd) (D : PS → Tt × PS) : Nat → PS → List Tt × PS
  | 0, s => ([], s)
  | n + 1, s => if (wdAt ws s).k = 0 then ([], s) else ((D s).1 :: (pProg ws D n (D s).2).1, (pProg ws D n (D s).2).2)
def progP (ws : List Wd) (s : PS) : Tt × PS :=
  let l := pProg ws (runP ws (ws.length + 1) .decl) (ws.length + 1) s
  (.mk [112, 114, 111, 103, 114, 97, 109] [] ((wdAt ws s).o : Int) l.1, l.2)
/-- What Parse answers: the tree (with an error: an empty one), where, the error. -/
def parseP (ws : List Wd) : Tt × Int × Int :=
  let r := progP ws ⟨0, 0, 0, 0⟩
  if r.2.e = 0 then (r.1, 0, 0) else (.mk [] [] 0 [], r.2.a, r.2.e)
def textP (L : List UInt8) : Tt × Int × Int :=
  match (cutL L 0).2 with
  | some o => (.mk [] [] 0 [], (o : Int), 6)
  | none => parseP (cutL L 0).1
end Go.Proofs.YtablincnlfbjnabDoor
