/- The writer's signed, truth, ints; a shape, a case, an instruction. -/
import Derived.Test.YtdekhnfncecacaaDoorCodeWr
namespace Go.Proofs.YtdekhnfncecacaaDoor
set_option maxRecDepth 100000
open Go.RowKit Go.Maps Go.ChangeShapes Go.WideShapes Go.ChangeAt Go.Deep

theorem WrTo.trans {w w1 w2 : World} {B wb g g1 : Nat} {bs : List Int} (h : Tw w w1 wb g g1) (k : WrTo w1 w2 B wb g1 bs) : WrTo w w2 B wb g bs := by
  obtain ⟨g2, cap2, k1, k2⟩ := k
  exact ⟨g2, cap2, k1, h.trans k2⟩
theorem zg_cast (v : Int) : zigI v = ((zg v : Nat) : Int) := by unfold zg zigI; split <;> omega

set_option maxHeartbeats 400000 in
theorem w_signed (w : World) (B wb g cap : Nat) (v : Int) (bs : List Int) (h : WrAt w B wb g cap bs) (hv : oI v) (hn : bs.length ≤ 20000000) (hBw : B ≤ w.heap.size) :
    Calls Tryd.prog 24 #[.pointer (some ⟨wb, 0, none⟩), .int .i64 v] w fun e w' => e = .returned (.tuple #[]) ∧ WrTo w w' B wb g (bs ++ eI v) := by
  have Z := zig_any v w hv.1 hv.2
  rw [zg_cast] at Z
  replace Z := hide Z
  have N := hide (w_number w B wb g cap (zg v) bs h (oU_zg hv) hn hBw)
  clear h hv hn hBw
  go_enter Tryd.func24, Tryd.ntmps24
  go_wp2_with fail
  refine (unhide Z).mono ?_
  rintro e w1 ⟨rfl, rfl⟩
  go_wp2_with fail
  refine (unhide N).mono ?_
  rintro e w2 ⟨rfl, F⟩
  replace F := hide F
  clear Z N
  go_wp2_with fail
  go_end0
  exact ⟨rfl, unhide F⟩

set_option maxHeartbeats 400000 in
theorem w_truth (w : World) (B wb g cap : Nat) (v : Bool) (bs : List Int) (h : WrAt w B wb g cap bs) (hn : bs.length ≤ 20000000) (hBw : B ≤ w.heap.size) :
    Calls Tryd.prog 22 #[.pointer (some ⟨wb, 0, none⟩), .bool v] w fun e w' => e = .returned (.tuple #[]) ∧ WrTo w w' B wb g (bs ++ eB v) := by
  cases v with
  | true =>
    have N := hide (w_number w B wb g cap 1 bs h (by unfold oU; decide) hn hBw)
    clear h hn hBw
    go_enter Tryd.func22, Tryd.ntmps22
    go_wp2_with fail
    refine (unhide N).mono ?_
    rintro e w2 ⟨rfl, F⟩
    replace F := hide F
    clear N
    go_wp2_with fail
    go_end0
    exact ⟨rfl, unhide F⟩
  | false =>
    have N := hide (w_number w B wb g cap 0 bs h (by unfold oU; decide) hn hBw)
    clear h hn hBw
    go_enter Tryd.func22, Tryd.ntmps22
    go_wp2_with fail
    refine (unhide N).mono ?_
    rintro e w2 ⟨rfl, F⟩
    replace F := hide F
    clear N
    go_wp2_with fail
    go_end0
    exact ⟨rfl, unhide F⟩

theorem flat_take {α : Type} (e : α → List Int) (l : List α) (k : Nat) (a : α) (h : l[k]? = some a) : (l.take (k + 1)).flatMap e = (l.take k).flatMap e ++ e a := by
  rw [List.take_add_one, h]
  simp
theorem flat_take_len {α : Type} (e : α → List Int) (l : List α) (k : Nat) : ((l.take k).flatMap e).length ≤ (l.flatMap e).length := by
  have : l.flatMap e = (l.take k).flatMap e ++ (l.drop k).flatMap e := by rw [← List.flatMap_append, List.take_append_drop]
  rw [this, List.length_append]
  omega
theorem flat_take_all {α : Type} (e : α → List Int) (l : List α) (k : Nat) (h : l.length ≤ k) : (l.take k).flatMap e = l.flatMap e := by rw [List.take_of_length_le h]

set_option maxHeartbeats 1000000 in
theorem w_ints (w : World) (B wb g cap lb n c : Nat) (vs bs : List Int) (h : WrAt w B wb g cap bs) (hv : ∀ v ∈ vs, oI v) (hn : bs.length + (vs.flatMap eI).length ≤ 20000000) (hBw : B ≤ w.heap.size)
    (hvs : vs.length = n) (hn5 : n ≤ 5) (hc : ∀ (i : Nat) v, vs[i]? = some v → w.cell? ⟨lb, i, none⟩ = some (.int .i64 v)) (hlb : lb < w.heap.size) (h1 : lb ≠ wb) (h2 : lb ≠ g) :
    Calls Tryd.prog 52 #[.pointer (some ⟨wb, 0, none⟩), .slice (some ⟨lb, 0, none⟩) n c] w fun e w' => e = .returned (.tuple #[]) ∧ WrTo w w' B wb g (bs ++ vs.flatMap eI) := by
  have ST : Hid (WrTo w w B wb g (bs ++ (vs.take 0).flatMap eI)) := hide ⟨g, cap, by simpa using h, Tw.refl w wb g⟩
  have FI := hide (flat_take_all eI vs n (by omega))
  have HC := hide hc
  have HV := hide hv
  have HVS := hide hvs
  have HN := hide hn
  clear h hv hc hvs hn
  go_enter Tryd.func52, Tryd.ntmps52
  go_wp2_with fail
  go_loopw [8] (fun i wr => ∃ k : Nat, k ≤ n ∧ i = .int .i64 k ∧ Hid (WrTo w wr B wb g (bs ++ (vs.take k).flatMap eI))) (fun i _ => n - (intOf i).toNat)
  case atStart => exact ⟨0, Nat.zero_le _, rfl, ST⟩
  case round =>
    obtain ⟨k, hk, rfl, HW⟩ := hrel
    by_cases hlt : k < n
    · obtain ⟨v, hvk⟩ : ∃ v, vs[k]? = some v := ⟨vs[k]'(by have := unhide HVS; omega), List.getElem?_eq_getElem _⟩
      have hcell : wr.cell? ⟨lb, k, none⟩ = some (.int .i64 v) := by
        obtain ⟨g1, cap1, k1, k2⟩ := unhide HW
        exact (World.cell?_of_block (k2.block lb hlb h1 h2)).trans (unhide HC k v hvk)
      have C : Hid (Calls Tryd.prog 24 #[.pointer (some ⟨wb, 0, none⟩), .int .i64 v] wr fun e w' => e = .returned (.tuple #[]) ∧ WrTo w w' B wb g (bs ++ (vs.take (k + 1)).flatMap eI)) := by
        obtain ⟨g1, cap1, k1, k2⟩ := unhide HW
        have hl := flat_take_len eI vs k
        have := unhide HN
        refine (w_signed wr B wb g1 cap1 v _ k1 (unhide HV v (List.mem_of_getElem? hvk)) (by rw [List.length_append]; omega) (Nat.le_trans hBw k2.size)).mono ?_
        rintro e w2 ⟨rfl, F⟩
        refine ⟨rfl, ?_⟩
        rw [flat_take eI vs k v hvk, ← List.append_assoc]
        exact WrTo.trans k2 F
      clear HW hvk
      go_wp2_with fail
      refine (unhide C).mono ?_
      rintro e w2 ⟨rfl, F⟩
      replace F := hide F
      clear C
      go_wp2_with fail
      go_roundw
      case rel => exact ⟨k + 1, by omega, by go_num, F⟩
      case measure => simp [intOf]; omega
    · obtain rfl : k = n := by omega
      have F : Hid (WrTo w wr B wb g (bs ++ vs.flatMap eI)) := by rw [← unhide FI]; exact unhide HW
      clear HW
      go_wp2_with fail
      go_end0
      exact ⟨rfl, unhide F⟩
end Go.Proofs.YtdekhnfncecacaaDoor
