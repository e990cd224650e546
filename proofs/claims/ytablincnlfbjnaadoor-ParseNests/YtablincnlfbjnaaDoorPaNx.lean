/- ParseNests' texts. -/
import Derived.Test.YtablincnlfbjnaaDoorPaG
namespace Go.Proofs.YtablincnlfbjnaaDoor
set_option maxRecDepth 100000
/-- s, n times. -/
def rep (n : Nat) (s : List UInt8) : List UInt8 := (List.replicate n s).flatten
theorem rep_succ (n : Nat) (s : List UInt8) : rep (n + 1) s = rep n s ++ s := by
  unfold rep
  rw [List.replicate_succ', List.flatten_append]
  simp
theorem rep_len (n : Nat) (s : List UInt8) : (rep n s).length = n * s.length := by
  unfold rep
  simp
/-- Expressions: brackets, signs. -/
def nxE (o c : List UInt8) (n : Nat) : List UInt8 := [102, 117, 110, 99, 32, 109, 97, 105, 110, 40, 41, 32, 123, 32, 112, 114, 105, 110, 116, 32] ++ rep n o ++ [49] ++ rep n c ++ [59, 32, 125]
/-- Blocks. -/
def nxB (n : Nat) : List UInt8 := [102, 117, 110, 99, 32, 109, 97, 105, 110, 40, 41, 32] ++ rep n [123, 32] ++ rep n [125, 32]
/-- Types. -/
def nxL (n : Nat) : List UInt8 := [118, 97, 114, 32, 120, 32] ++ rep n [91, 93] ++ [105, 110, 116, 59]
end Go.Proofs.YtablincnlfbjnaaDoor
