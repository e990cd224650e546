/-
  NARROWER THAN 'FOR EVERY INPUT', by the rows' own cells (each row's printed sentence says how): FrameKnown: laid · FramePlays: laid · FrameDeep: laid · FrameCopies: laid.
  DERIVED. THE GIVEN ROWS OF THIS SEAT. 4 by the template 'for every input the law returns true; each argument reads behind the call as it read before'; 0 by the template 'total and deterministic' (their statements: YtnfeommkbocgpaaDoorTotals.lean).
  GIVEN WITH THE SEED: the statements are not yours to turn. If you find one false, say at which input.
  Laid BY PROGRAM, IN A SANDBOX (cutbox-rows.mjs): the forced cells as the released guide's own fill.sh prints them over the translation 626073e2d8c7075c… (all of the seat's roots in one cut). By AI agents, Wed Nov 11 2026. No macro, syntax, notation, axiom, sorry.
-/
import Derived.Test.YtnfeommkbocgpaaDoorChecked
import GoSem.Claim
import GoSem.ClaimJoined
import GoSem.ClaimMapViews
import Derived.JoinedTies
import Derived.KernelRfl
namespace Go.Proofs.YtnfeommkbocgpaaDoor
/- THE CELL 'sum', in the pinned program and in every row, IS THE sha256 OF THE DUMP (.gsa) THAT YtnfeommkbocgpaaDoorProg.lean LOADS. Nothing in Lean hashes anything: it is a label: what it is worth is what the hold of that sum in a sandbox is worth. -/
noncomputable def Tryd.pinned : Pinned := { name := "ytnfeommkbocgpaadoor", sum := "626073e2d8c7075ce9a5f0105816eaa44bcc0a0c785168cfb39b0a53754cf239", checked := Tryd.checked }
namespace Rows
def none {H : Type} : Left H := { results := [], args := [] }

/- WHAT THE LISTED PACKAGE-LEVEL VARIABLES READ AS WHEN THE CALL BEGINS. Each datum BY PROGRAM (the guide's laid-datum.mjs) off the statement by which the dump's own 'gosem.cut.vars' lays the variable. In a bare row this is a premise. The card (YtnfeommkbocgpaaDoorCards.lean) ties it to the program's text. -/
def laid_gantline_code_rows {H : Type} : DataW H := .agg [.agg [.lit (.string [99, 111, 110, 115, 116]), .lit (.int .i64 2), .lit (.bool false), .lit (.bool false)], .agg [.lit (.string [109, 111, 118, 101]), .lit (.int .i64 2), .lit (.bool false), .lit (.bool false)], .agg [.lit (.string [110, 105, 108]), .lit (.int .i64 1), .lit (.bool false), .lit (.bool false)], .agg [.lit (.string [97, 100, 100]), .lit (.int .i64 3), .lit (.bool false), .lit (.bool false)], .agg [.lit (.string [115, 117, 98]), .lit (.int .i64 3), .lit (.bool false), .lit (.bool false)], .agg [.lit (.string [109, 117, 108]), .lit (.int .i64 3), .lit (.bool false), .lit (.bool false)], .agg [.lit (.string [100, 105, 118]), .lit (.int .i64 3), .lit (.bool false), .lit (.bool false)], .agg [.lit (.string [109, 111, 100]), .lit (.int .i64 3), .lit (.bool false), .lit (.bool false)], .agg [.lit (.string [97, 110, 100]), .lit (.int .i64 3), .lit (.bool false), .lit (.bool false)], .agg [.lit (.string [111, 114]), .lit (.int .i64 3), .lit (.bool false), .lit (.bool false)], .agg [.lit (.string [120, 111, 114]), .lit (.int .i64 3), .lit (.bool false), .lit (.bool false)], .agg [.lit (.string [115, 104, 108]), .lit (.int .i64 3), .lit (.bool false), .lit (.bool false)], .agg [.lit (.string [115, 104, 114]), .lit (.int .i64 3), .lit (.bool false), .lit (.bool false)], .agg [.lit (.string [108, 116]), .lit (.int .i64 3), .lit (.bool false), .lit (.bool false)], .agg [.lit (.string [108, 101]), .lit (.int .i64 3), .lit (.bool false), .lit (.bool false)], .agg [.lit (.string [101, 113]), .lit (.int .i64 3), .lit (.bool false), .lit (.bool false)], .agg [.lit (.string [115, 97, 109, 101]), .lit (.int .i64 3), .lit (.bool false), .lit (.bool false)], .agg [.lit (.string [110, 111, 116]), .lit (.int .i64 2), .lit (.bool false), .lit (.bool false)], .agg [.lit (.string [106, 117, 109, 112]), .lit (.int .i64 1), .lit (.bool false), .lit (.bool false)], .agg [.lit (.string [105, 102]), .lit (.int .i64 2), .lit (.bool false), .lit (.bool false)], .agg [.lit (.string [99, 97, 108, 108]), .lit (.int .i64 3), .lit (.bool true), .lit (.bool false)], .agg [.lit (.string [99, 97, 108, 108, 99]), .lit (.int .i64 4), .lit (.bool true), .lit (.bool false)], .agg [.lit (.string [114, 101, 116, 117, 114, 110]), .lit (.int .i64 1), .lit (.bool false), .lit (.bool false)], .agg [.lit (.string [103, 111]), .lit (.int .i64 2), .lit (.bool true), .lit (.bool false)], .agg [.lit (.string [103, 111, 99]), .lit (.int .i64 3), .lit (.bool true), .lit (.bool false)], .agg [.lit (.string [110, 101, 119]), .lit (.int .i64 2), .lit (.bool true), .lit (.bool true)], .agg [.lit (.string [97, 114, 114, 97, 121]), .lit (.int .i64 3), .lit (.bool true), .lit (.bool true)], .agg [.lit (.string [103, 101, 116]), .lit (.int .i64 3), .lit (.bool false), .lit (.bool false)], .agg [.lit (.string [115, 101, 116]), .lit (.int .i64 3), .lit (.bool false), .lit (.bool false)], .agg [.lit (.string [115, 101, 116, 110]), .lit (.int .i64 3), .lit (.bool false), .lit (.bool false)], .agg [.lit (.string [97, 116]), .lit (.int .i64 3), .lit (.bool false), .lit (.bool false)], .agg [.lit (.string [112, 117, 116]), .lit (.int .i64 3), .lit (.bool false), .lit (.bool false)], .agg [.lit (.string [112, 117, 116, 110]), .lit (.int .i64 3), .lit (.bool false), .lit (.bool false)], .agg [.lit (.string [108, 101, 110]), .lit (.int .i64 2), .lit (.bool false), .lit (.bool false)], .agg [.lit (.string [108, 111, 97, 100]), .lit (.int .i64 2), .lit (.bool false), .lit (.bool false)], .agg [.lit (.string [115, 116, 111, 114, 101]), .lit (.int .i64 2), .lit (.bool false), .lit (.bool false)], .agg [.lit (.string [99, 108, 111, 115, 117, 114, 101]), .lit (.int .i64 3), .lit (.bool true), .lit (.bool true)], .agg [.lit (.string [99, 104, 97, 110]), .lit (.int .i64 3), .lit (.bool true), .lit (.bool true)], .agg [.lit (.string [115, 101, 110, 100]), .lit (.int .i64 2), .lit (.bool true), .lit (.bool false)], .agg [.lit (.string [114, 101, 99, 118]), .lit (.int .i64 3), .lit (.bool true), .lit (.bool false)], .agg [.lit (.string [99, 108, 111, 115, 101]), .lit (.int .i64 1), .lit (.bool false), .lit (.bool false)], .agg [.lit (.string [115, 101, 108, 101, 99, 116]), .lit (.int .i64 2), .lit (.bool true), .lit (.bool false)], .agg [.lit (.string [112, 114, 105, 110, 116]), .lit (.int .i64 1), .lit (.bool false), .lit (.bool false)], .agg [.lit (.string [112, 111, 108, 108]), .lit (.int .i64 0), .lit (.bool true), .lit (.bool false)], .agg [.lit (.string [116, 114, 97, 112]), .lit (.int .i64 1), .lit (.bool false), .lit (.bool false)]]

/-- 'gantlinelaw13.FrameKnown': WHATEVER THE INPUT: true; the input reads as it did. -/
def frameKnownSpec : ChangeSpec := { name := "frameKnown", fn := fun _ => fun
  | [] => { results := [.lit (.bool true)], args := [] }
  | _ => none }
def frameKnownRow : OpenClaim := { program := "ytnfeommkbocgpaadoor", sum := "626073e2d8c7075ce9a5f0105816eaa44bcc0a0c785168cfb39b0a53754cf239", func := "gantline/gantlinelaw13.FrameKnown", spec := "frameKnown", named := ["gantline/code.rows"], apart := false, laid := [("gantline/code.rows", laid_gantline_code_rows)] }
def FrameKnownSaid : Prop := frameKnownRow.holds Tryd.pinned (OpenSpec.ofChange frameKnownSpec)

/-- ITS FALSE NEIGHBOUR: 'it returns false'. Refute it at one input. -/
def frameKnownWrong : ChangeSpec := { name := "frameKnown", fn := fun _ => fun
  | [] => { results := [.lit (.bool false)], args := [] }
  | _ => none }
def FrameKnownWrongFalsely : Prop := frameKnownRow.holds Tryd.pinned (OpenSpec.ofChange frameKnownWrong)

/-- 'gantlinelaw13.FramePlays': WHATEVER THE INPUT: true; the input reads as it did. -/
def framePlaysSpec : ChangeSpec := { name := "framePlays", fn := fun _ => fun
  | [d1, d2, d3, d4] => { results := [.lit (.bool true)], args := [d1, d2, d3, d4] }
  | _ => none }
def framePlaysRow : OpenClaim := { program := "ytnfeommkbocgpaadoor", sum := "626073e2d8c7075ce9a5f0105816eaa44bcc0a0c785168cfb39b0a53754cf239", func := "gantline/gantlinelaw13.FramePlays", spec := "framePlays", named := ["gantline/code.rows"], apart := false, laid := [("gantline/code.rows", laid_gantline_code_rows)] }
def FramePlaysSaid : Prop := framePlaysRow.holds Tryd.pinned (OpenSpec.ofChange framePlaysSpec)

/-- ITS FALSE NEIGHBOUR: 'it returns false'. Refute it at one input. -/
def framePlaysWrong : ChangeSpec := { name := "framePlays", fn := fun _ => fun
  | [d1, d2, d3, d4] => { results := [.lit (.bool false)], args := [d1, d2, d3, d4] }
  | _ => none }
def FramePlaysWrongFalsely : Prop := framePlaysRow.holds Tryd.pinned (OpenSpec.ofChange framePlaysWrong)

/-- 'gantlinelaw13.FrameDeep': WHATEVER THE INPUT: true; the input reads as it did. -/
def frameDeepSpec : ChangeSpec := { name := "frameDeep", fn := fun _ => fun
  | [d1, d2] => { results := [.lit (.bool true)], args := [d1, d2] }
  | _ => none }
def frameDeepRow : OpenClaim := { program := "ytnfeommkbocgpaadoor", sum := "626073e2d8c7075ce9a5f0105816eaa44bcc0a0c785168cfb39b0a53754cf239", func := "gantline/gantlinelaw13.FrameDeep", spec := "frameDeep", named := ["gantline/code.rows"], apart := false, laid := [("gantline/code.rows", laid_gantline_code_rows)] }
def FrameDeepSaid : Prop := frameDeepRow.holds Tryd.pinned (OpenSpec.ofChange frameDeepSpec)

/-- ITS FALSE NEIGHBOUR: 'it returns false'. Refute it at one input. -/
def frameDeepWrong : ChangeSpec := { name := "frameDeep", fn := fun _ => fun
  | [d1, d2] => { results := [.lit (.bool false)], args := [d1, d2] }
  | _ => none }
def FrameDeepWrongFalsely : Prop := frameDeepRow.holds Tryd.pinned (OpenSpec.ofChange frameDeepWrong)

/-- 'gantlinelaw13.FrameCopies': WHATEVER THE INPUT: true; the input reads as it did. -/
def frameCopiesSpec : ChangeSpec := { name := "frameCopies", fn := fun _ => fun
  | [d1, d2] => { results := [.lit (.bool true)], args := [d1, d2] }
  | _ => none }
def frameCopiesRow : OpenClaim := { program := "ytnfeommkbocgpaadoor", sum := "626073e2d8c7075ce9a5f0105816eaa44bcc0a0c785168cfb39b0a53754cf239", func := "gantline/gantlinelaw13.FrameCopies", spec := "frameCopies", named := ["gantline/code.rows"], apart := false, laid := [("gantline/code.rows", laid_gantline_code_rows)] }
def FrameCopiesSaid : Prop := frameCopiesRow.holds Tryd.pinned (OpenSpec.ofChange frameCopiesSpec)

/-- ITS FALSE NEIGHBOUR: 'it returns false'. Refute it at one input. -/
def frameCopiesWrong : ChangeSpec := { name := "frameCopies", fn := fun _ => fun
  | [d1, d2] => { results := [.lit (.bool false)], args := [d1, d2] }
  | _ => none }
def FrameCopiesWrongFalsely : Prop := frameCopiesRow.holds Tryd.pinned (OpenSpec.ofChange frameCopiesWrong)

/- THE SECOND FORM. 'bulk': how many values and letters a reading holds, each counted each time it is reached (what is shared counts as often as it is met; a slice's spare places count too). A statement '..UptoSaid' is the law's where the arguments, and the package variables that the reading takes, are together of bulk at most 1048576: NARROWER than '..Said'. Prove '..Said' where nothing that the law and all that it calls make is longer than what came in: it says more and counts as full. Else prove '..UptoSaid'. A law counts once. -/
mutual
def uptoBulk {H : Type} : DataW H → Nat
  | .lit (.string bytes) => bytes.length + 1
  | .lit _ => 1
  | .nil => 1
  | .ptr d => uptoBulk d + 1
  | .slice elems spare => uptoBulkAll elems + uptoBulkAll spare + 1
  | .agg parts => uptoBulkAll parts + 1
  | .iface _ d => uptoBulk d + 1
  | .map entries => uptoBulkEntries entries + 1
  | .held _ => 1
def uptoBulkAll {H : Type} : List (DataW H) → Nat
  | [] => 0
  | d :: r => uptoBulk d + uptoBulkAll r
def uptoBulkEntries {H : Type} : List (Lit × DataW H) → Nat
  | [] => 0
  | x :: r => uptoBulkEntry x + uptoBulkEntries r
def uptoBulkEntry {H : Type} : Lit × DataW H → Nat
  | (.string bytes, d) => bytes.length + uptoBulk d + 1
  | (_, d) => uptoBulk d + 1
 end
def uptoSmall : (H : Type) → List (DataW H) → Bool := fun _ ds => decide (uptoBulkAll ds ≤ 1048576)
def OpenSpec.upto (s : _root_.Go.ChangeSpec) : _root_.Go.OpenSpec := { _root_.Go.OpenSpec.ofChange s with cond := some uptoSmall }

/-- 'gantlinelaw13.FrameKnown', WHERE WHAT IT READS IS OF BULK AT MOST 1048576: true; the input reads as it did. -/
def frameKnownUptoRow : OpenClaim := { program := "ytnfeommkbocgpaadoor", sum := "626073e2d8c7075ce9a5f0105816eaa44bcc0a0c785168cfb39b0a53754cf239", func := "gantline/gantlinelaw13.FrameKnown", spec := "frameKnown", named := ["gantline/code.rows"], apart := false, laid := [("gantline/code.rows", laid_gantline_code_rows)], narrowed := true }
def FrameKnownUptoSaid : Prop := frameKnownUptoRow.holds Tryd.pinned (OpenSpec.upto frameKnownSpec)

/-- 'gantlinelaw13.FramePlays', WHERE WHAT IT READS IS OF BULK AT MOST 1048576: true; the input reads as it did. -/
def framePlaysUptoRow : OpenClaim := { program := "ytnfeommkbocgpaadoor", sum := "626073e2d8c7075ce9a5f0105816eaa44bcc0a0c785168cfb39b0a53754cf239", func := "gantline/gantlinelaw13.FramePlays", spec := "framePlays", named := ["gantline/code.rows"], apart := false, laid := [("gantline/code.rows", laid_gantline_code_rows)], narrowed := true }
def FramePlaysUptoSaid : Prop := framePlaysUptoRow.holds Tryd.pinned (OpenSpec.upto framePlaysSpec)

/-- 'gantlinelaw13.FrameDeep', WHERE WHAT IT READS IS OF BULK AT MOST 1048576: true; the input reads as it did. -/
def frameDeepUptoRow : OpenClaim := { program := "ytnfeommkbocgpaadoor", sum := "626073e2d8c7075ce9a5f0105816eaa44bcc0a0c785168cfb39b0a53754cf239", func := "gantline/gantlinelaw13.FrameDeep", spec := "frameDeep", named := ["gantline/code.rows"], apart := false, laid := [("gantline/code.rows", laid_gantline_code_rows)], narrowed := true }
def FrameDeepUptoSaid : Prop := frameDeepUptoRow.holds Tryd.pinned (OpenSpec.upto frameDeepSpec)

/-- 'gantlinelaw13.FrameCopies', WHERE WHAT IT READS IS OF BULK AT MOST 1048576: true; the input reads as it did. -/
def frameCopiesUptoRow : OpenClaim := { program := "ytnfeommkbocgpaadoor", sum := "626073e2d8c7075ce9a5f0105816eaa44bcc0a0c785168cfb39b0a53754cf239", func := "gantline/gantlinelaw13.FrameCopies", spec := "frameCopies", named := ["gantline/code.rows"], apart := false, laid := [("gantline/code.rows", laid_gantline_code_rows)], narrowed := true }
def FrameCopiesUptoSaid : Prop := frameCopiesUptoRow.holds Tryd.pinned (OpenSpec.upto frameCopiesSpec)

end Rows
end Go.Proofs.YtnfeommkbocgpaaDoor
