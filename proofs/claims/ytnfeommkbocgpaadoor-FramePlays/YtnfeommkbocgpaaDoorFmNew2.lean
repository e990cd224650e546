/- New of package frame. -/
import Derived.Test.YtnfeommkbocgpaaDoorFmNew
namespace Go.Proofs.YtnfeommkbocgpaaDoor
open Go.RowKit Go.Maps Go.ChangeShapes Go.WideShapes Go.ChangeAt Go.Deep

theorem sk_new (x : World) (B : Nat) (hB : B ≤ x.heap.size) : SK (x.alloc (.cells #[.slice none 0 0] 66)) B x.heap.size (.slice none 0 0) [] := by
  have hn := heap_alloc_new x (.cells #[.slice none 0 0] 66)
  refine ⟨RK.nil _ _, ?_, ?_, hB, ?_⟩
  · rw [cell_of_row _ _ _ _ _ _ hn]; rfl
  · exact frozen_of_row _ _ _ _ _ hn
  · rintro (h | ⟨f, hf, _⟩)
    · cases h
    · cases hf
theorem new_call {w : World} {mv : Value} {m : Md} (hm : ModAt w mv m) {f : Fn} (k : Int) (hf : fmAt m k = some f) {ao : Option Addr} {n c : Nat} {l : List Int} (hr : RowAt elI w ao n c l) (ht : tkP f n = true) (op : oI f.p) (x : World) (g : G w x) :
    Calls Tryd.prog 10 #[.pointer (some ⟨x.heap.size, 0, none⟩), mv, .int .i64 k, .slice ao n c] (x.alloc (.cells #[.slice none 0 0] 66)) fun e w' => e = .returned (.int .i64 0) ∧ Hid (∃ v sb, SK w' w.heap.size x.heap.size v [⟨k, 0, sb, (laidL f.s.toNat l).length, laidL f.s.toNat l⟩] ∧ G w w') := by
  have gx := g.more (.cells #[.slice none 0 0] 66)
  have hk := sk_new x w.heap.size g.size
  have hl : ([] : List Fr).length < 256 := by simp
  refine (call_ok hk gx.size (hm.g gx) k hf (hr.g okI gx) ht hl op).mono ?_
  rintro e w' ⟨rfl, sb, v', _, h1, h2⟩
  refine ⟨rfl, hide ⟨v', sb, h1, ⟨h2.tr.os.trans gx.os, h2.tr.tape.trans gx.tape, h2.tr.output.trans gx.output, Nat.le_trans gx.size h2.tr.size, fun q hq => ?_⟩⟩⟩
  refine (h2.tr.block q (Nat.lt_of_lt_of_le hq gx.size) ?_).trans (gx.block q hq)
  have hgs := g.size
  rintro (e2 | e2 | ⟨f, hf, _⟩)
  · omega
  · cases e2
  · cases hf
theorem new_callb {w : World} {mv : Value} {m : Md} (hm : ModAt w mv m) (k : Int) (ao : Option Addr) (n c : Nat) (hn : (n : Int) ≤ 9223372036854775807) (hb : refP m k n) (op : ∀ f, fmAt m k = some f → oI f.p) (x : World) (g : G w x) :
    Calls Tryd.prog 10 #[.pointer (some ⟨x.heap.size, 0, none⟩), mv, .int .i64 k, .slice ao n c] (x.alloc (.cells #[.slice none 0 0] 66)) fun e w' => e = .returned (.int .i64 1) ∧ G w w' := by
  have gx := g.more (.cells #[.slice none 0 0] 66)
  have hk := sk_new x w.heap.size g.size
  have hl : ([] : List Fr).length < 256 := by simp
  refine (call_bad hk (hm.g gx) k ao n c hn hb hl op).mono ?_
  rintro e w' ⟨rfl, h1⟩
  exact ⟨rfl, gx.trans h1⟩
set_option maxHeartbeats 1000000 in
theorem new_ok {w : World} {mv : Value} {m : Md} (hm : ModAt w mv m) {f : Fn} (k : Int) (hf : fmAt m k = some f) {ao : Option Addr} {n c : Nat} {l : List Int} (hr : RowAt elI w ao n c l) (ht : tkP f n = true) (op : oI f.p) :
    Calls Tryd.prog 8 #[mv, .int .i64 k, .slice ao n c] w fun e w' => ∃ s v sb, e = .returned (.tuple #[.pointer (some ⟨s, 0, none⟩), .int .i64 0]) ∧ SK w' w.heap.size s v [⟨k, 0, sb, (laidL f.s.toNat l).length, laidL f.s.toNat l⟩] ∧ G w w' := by
  have CC := hide (fun (x : World) (g : G w x) (a : Nat) (ha : a = x.heap.size) => (show Calls Tryd.prog 10 #[.pointer (some ⟨a, 0, none⟩), mv, .int .i64 k, .slice ao n c] (x.alloc (.cells #[.slice none 0 0] 66)) (fun e w' => e = .returned (.int .i64 0) ∧ Hid (∃ v sb, SK w' w.heap.size a v [⟨k, 0, sb, (laidL f.s.toNat l).length, laidL f.s.toNat l⟩] ∧ G w w')) by rw [ha]; exact new_call hm k hf hr ht op x g))
  obtain ⟨so, sc, go, gc, co, cc, mo_, mc_, fo, fc, rfl, _⟩ := hm
  clear hr ht hf op
  go_enter Tryd.func8, Tryd.ntmps8
  go_wp2_with fail
  refine (unhide CC _ (G.alloc w _) _ (World.size_alloc _ _).symm).mono ?_
  rintro e w1 ⟨rfl, H1⟩
  clear CC
  go_wp2_with fail
  refine bodyPost_ret (by simp [results, Tryd.results8, go_sem]; try rfl) rfl ?_
  obtain ⟨v, sb, h1, h2⟩ := unhide H1
  exact ⟨_, v, sb, rfl, h1, h2⟩
set_option maxHeartbeats 1000000 in
theorem new_bad {w : World} {mv : Value} {m : Md} (hm : ModAt w mv m) (k : Int) (ao : Option Addr) (n c : Nat) (hn : (n : Int) ≤ 9223372036854775807) (hb : refP m k n) (op : ∀ f, fmAt m k = some f → oI f.p) :
    Calls Tryd.prog 8 #[mv, .int .i64 k, .slice ao n c] w fun e w' => e = .returned (.tuple #[.pointer none, .int .i64 1]) ∧ G w w' := by
  have CC := hide (fun (x : World) (g : G w x) (a : Nat) (ha : a = x.heap.size) => (show Calls Tryd.prog 10 #[.pointer (some ⟨a, 0, none⟩), mv, .int .i64 k, .slice ao n c] (x.alloc (.cells #[.slice none 0 0] 66)) (fun e w' => e = .returned (.int .i64 1) ∧ G w w') by rw [ha]; exact new_callb hm k ao n c hn hb op x g))
  obtain ⟨so, sc, go, gc, co, cc, mo_, mc_, fo, fc, rfl, _⟩ := hm
  clear hb op hn
  go_enter Tryd.func8, Tryd.ntmps8
  go_wp2_with fail
  refine (unhide CC _ (G.alloc w _) _ (World.size_alloc _ _).symm).mono ?_
  rintro e w1 ⟨rfl, g1⟩
  have G1 := hide g1
  clear CC g1
  go_wp2_with fail
  refine bodyPost_ret (by simp [results, Tryd.results8, go_sem]; try rfl) rfl ?_
  exact ⟨rfl, unhide G1⟩
end Go.Proofs.YtnfeommkbocgpaaDoor
