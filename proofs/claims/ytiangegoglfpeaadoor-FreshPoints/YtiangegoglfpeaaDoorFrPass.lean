/- Package fresh: what is known goes over any instruction. -/
import Derived.Test.YtiangegoglfpeaaDoorFrPs0
import Derived.Test.YtiangegoglfpeaaDoorFrPs1
import Derived.Test.YtiangegoglfpeaaDoorFrPs2
import Derived.Test.YtiangegoglfpeaaDoorFrPs3
import Derived.Test.YtiangegoglfpeaaDoorFrPs4
namespace Go.Proofs.YtiangegoglfpeaaDoor
set_option maxRecDepth 100000
open Go.RowKit Go.Maps Go.ChangeShapes Go.WideShapes Go.ChangeAt Go.Deep

theorem pass_any {W0 w : World} {b : Nat} {k : Kn} (H : PsC W0 w b) (h : KnAt w b k) (m : Md) (so : Option Addr) (sc : Nat) (go : Option Addr) (gc : Nat) (co : Option Addr) (cc : Nat) (ao : Option Addr) (ac : Nat) (fo : Option Addr) (fc : Nat) (hM : ModR W0 m so sc go gc co cc ao ac fo fc) (hn : m.ca.length ≤ 1000000) (i : In) (hi : oIn i) :
    Calls Tryd.prog 51 #[.pointer (some ⟨b, 0, none⟩), agM m so sc go gc co cc ao ac fo fc, agI i] w fun e w' => e = .returned (.tuple #[]) ∧ KnAt w' b (k.pass m i) ∧ TrD w w' (· = b) := by
  obtain ⟨op, A, B, C, D⟩ := i
  by_cases h25 : op = 25
  · subst h25
    exact pass_25 H h m so sc go gc co cc ao ac fo fc hM hn A B C D hi
  by_cases h26 : op = 26
  · subst h26
    exact pass_26 H h m so sc go gc co cc ao ac fo fc hM hn A B C D hi
  by_cases h37 : op = 37
  · subst h37
    exact pass_37 H h m so sc go gc co cc ao ac fo fc hM hn A B C D hi
  by_cases h36 : op = 36
  · subst h36
    exact pass_36 H h m so sc go gc co cc ao ac fo fc hM hn A B C D hi
  by_cases h1 : op = 1
  · subst h1
    exact pass_1 H h m so sc go gc co cc ao ac fo fc hM hn A B C D hi
  by_cases h28 : op = 28
  · subst h28
    exact pass_28 H h m so sc go gc co cc ao ac fo fc hM hn A B C D hi
  by_cases h29 : op = 29
  · subst h29
    exact pass_29 H h m so sc go gc co cc ao ac fo fc hM hn A B C D hi
  by_cases h31 : op = 31
  · subst h31
    exact pass_31 H h m so sc go gc co cc ao ac fo fc hM hn A B C D hi
  by_cases h32 : op = 32
  · subst h32
    exact pass_32 H h m so sc go gc co cc ao ac fo fc hM hn A B C D hi
  by_cases h38 : op = 38
  · subst h38
    exact pass_38 H h m so sc go gc co cc ao ac fo fc hM hn A B C D hi
  by_cases h35 : op = 35
  · subst h35
    exact pass_35 H h m so sc go gc co cc ao ac fo fc hM hn A B C D hi
  by_cases h20 : op = 20
  · subst h20
    exact pass_20 H h m so sc go gc co cc ao ac fo fc hM hn A B C D hi
  by_cases h21 : op = 21
  · subst h21
    exact pass_21 H h m so sc go gc co cc ao ac fo fc hM hn A B C D hi
  by_cases h22 : op = 22
  · subst h22
    exact pass_22 H h m so sc go gc co cc ao ac fo fc hM hn A B C D hi
  by_cases h23 : op = 23
  · subst h23
    exact pass_23 H h m so sc go gc co cc ao ac fo fc hM hn A B C D hi
  by_cases h24 : op = 24
  · subst h24
    exact pass_24 H h m so sc go gc co cc ao ac fo fc hM hn A B C D hi
  exact pass_any0 H h m so sc go gc co cc ao ac fo fc hM hn op (beq_eq_false_iff_ne.2 h25) (beq_eq_false_iff_ne.2 h26) (beq_eq_false_iff_ne.2 h37) (beq_eq_false_iff_ne.2 h36) (beq_eq_false_iff_ne.2 h1) (beq_eq_false_iff_ne.2 h28) (beq_eq_false_iff_ne.2 h29) (beq_eq_false_iff_ne.2 h31) (beq_eq_false_iff_ne.2 h32) (beq_eq_false_iff_ne.2 h38) (beq_eq_false_iff_ne.2 h35) (beq_eq_false_iff_ne.2 h20) (beq_eq_false_iff_ne.2 h21) (beq_eq_false_iff_ne.2 h22) (beq_eq_false_iff_ne.2 h23) (beq_eq_false_iff_ne.2 h24) A B C D hi
end Go.Proofs.YtiangegoglfpeaaDoor
