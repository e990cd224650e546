/- What a case's node keeps; what caseNode is to answer. -/
import Derived.Test.YtnliooflpclcbaaGreatDoorLiveNd
namespace Go.Proofs.YtnliooflpclcbaaGreatDoor
set_option maxRecDepth 100000
open Go.RowKit

/-- What a case's node keeps. -/
def kpC (c : Ca) : Nat := if c.k = 0 then notU (mskP [c.v]) else allU
/-- caseNode's contract. -/
def CaseC : Prop := ∀ (w : World) (gB : Nat) (f : Fn) (ko : Option Addr) (kc : Nat) (io : Option Addr) (ic : Nat) (mo : Option Addr) (mc : Nat),
    w.cell? ⟨gB, 6, none⟩ = some (.int .i64 f.p) → w.cell? ⟨gB, 7, none⟩ = some (.int .i64 f.c) → w.cell? ⟨gB, 8, none⟩ = some (.int .i64 f.s) → w.cell? ⟨gB, 9, none⟩ = some (.int .i64 f.r) → w.cell? ⟨gB, 10, none⟩ = some (.slice ko f.ks.length kc) → w.cell? ⟨gB, 11, none⟩ = some (.slice io f.is.length ic) → w.cell? ⟨gB, 12, none⟩ = some (.slice mo f.ms.length mc) →
    ∀ (ck cc cv ct : Int), oCa ⟨ck, cc, cv, ct⟩ → Calls Tryz.prog 73 #[.pointer (some ⟨gB, 0, none⟩), .agg #[.int .i64 ck, .int .i64 cc, .int .i64 cv, .int .i64 ct]] w (NdTo w (mskP (crP ⟨ck, cc, cv, ct⟩)) (kpC ⟨ck, cc, cv, ct⟩) (plP f.is.length [ct]))
end Go.Proofs.YtnliooflpclcbaaGreatDoor
