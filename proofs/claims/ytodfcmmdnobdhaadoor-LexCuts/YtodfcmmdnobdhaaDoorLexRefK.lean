/- The document's own Kept, sign, fits (gantlineref19). -/
import Derived.Test.YtodfcmmdnobdhaaDoorLexAwake
import Derived.Laws.Cover1
namespace Go.Proofs.YtodfcmmdnobdhaaDoor
set_option maxRecDepth 100000
open Go.RowKit Go.Maps Go.ChangeShapes Go.WideShapes Go.ChangeAt Go.Deep

/-- A row of given texts. -/
theorem strs_cell (w : World) (L : List (List UInt8)) (k : Nat) (x : List UInt8) (hk : L[k]? = some x) :
    (w.alloc (.cells (L.map (fun x => Value.string ⟨x.toArray⟩)).toArray 9)).cell? ⟨w.heap.size, k, none⟩ = some (.string ⟨x.toArray⟩) := by
  refine (cell_of_row _ _ _ _ _ _ (heap_alloc_new w _)).trans ?_
  simp [hk]
theorem contains_step {L : List (List UInt8)} {k : Nat} {x y : List UInt8} (hk : L[k]? = some y) : (L.drop k).contains x = (y == x || (L.drop (k + 1)).contains x) := by
  obtain ⟨hlt, hy⟩ := List.getElem?_eq_some_iff.1 hk
  have e : (x == y) = (y == x) := by
    rw [Bool.eq_iff_iff, beq_iff_eq, beq_iff_eq]
    exact eq_comm
  rw [List.drop_eq_getElem_cons hlt, List.contains_cons, hy, e]

set_option maxHeartbeats 1000000 in
theorem rkept_any (s : ByteArray) (w : World) : Calls Tryd.prog 11 #[.string s] w fun e w' => e = .returned (.bool (keptP s.data.toList)) ∧ G w w' := by
  obtain ⟨W1, hW1⟩ : ∃ W1, W1 = w.alloc (.cells #[.string ⟨#[115, 116, 114, 117, 99, 116]⟩, .string ⟨#[118, 97, 114]⟩, .string ⟨#[102, 117, 110, 99]⟩, .string ⟨#[105, 110, 116]⟩, .string ⟨#[98, 111, 111, 108]⟩, .string ⟨#[99, 104, 97, 110]⟩, .string ⟨#[105, 102]⟩, .string ⟨#[101, 108, 115, 101]⟩, .string ⟨#[119, 104, 105, 108, 101]⟩, .string ⟨#[114, 101, 116, 117, 114, 110]⟩, .string ⟨#[112, 114, 105, 110, 116]⟩, .string ⟨#[103, 111]⟩, .string ⟨#[115, 101, 110, 100]⟩, .string ⟨#[99, 108, 111, 115, 101]⟩, .string ⟨#[115, 101, 108, 101, 99, 116]⟩, .string ⟨#[99, 97, 115, 101]⟩, .string ⟨#[100, 101, 102, 97, 117, 108, 116]⟩, .string ⟨#[114, 101, 99, 118]⟩, .string ⟨#[116, 114, 117, 101]⟩, .string ⟨#[102, 97, 108, 115, 101]⟩, .string ⟨#[110, 105, 108]⟩, .string ⟨#[110, 101, 119]⟩, .string ⟨#[109, 97, 107, 101]⟩, .string ⟨#[108, 101, 110]⟩] 9) := ⟨_, rfl⟩
  have gW : Hid (G w W1) := hide (by rw [hW1]; exact (Below.refl _ w).alloc (Nat.le_refl _) _)
  have RD : Hid (∀ k, k < 24 → ∃ y : ByteArray, keptL[k]? = some y.data.toList ∧ W1.cell? ⟨w.heap.size, k, none⟩ = some (.string y)) := hide fun k hk => by
    have hx : keptL[k]? = some (keptL[k]'(by show k < 24; exact hk)) := List.getElem?_eq_getElem _
    refine ⟨⟨(keptL[k]'(by show k < 24; exact hk)).toArray⟩, hx, ?_⟩
    rw [hW1]
    exact strs_cell w keptL k _ hx
  obtain ⟨q, hq⟩ : ∃ q, q = keptP s.data.toList := ⟨_, rfl⟩
  rw [← hq]
  have ST : Hid (q = (keptL.drop 0).contains s.data.toList) := hide (by rw [hq]; rfl)
  clear hq
  go_enter Tryd.func11, Tryd.ntmps11
  go_upto_region 2 with fail
  rw [← hW1]
  clear hW1
  go_wp2_with fail
  go_loopw [4] (fun i wr => ∃ k : Nat, k ≤ 24 ∧ i = .int .i64 (k : Int) ∧ wr = W1 ∧ Hid (q = (keptL.drop k).contains s.data.toList)) (fun i _ => 24 - (intOf i).toNat)
  case atStart => exact ⟨0, Nat.zero_le _, rfl, rfl, ST⟩
  case round =>
    obtain ⟨k, hk, rfl, rfl, HQ⟩ := hrel
    clear ST
    by_cases hlt : k < 24
    · obtain ⟨y, hy, hcell⟩ := unhide RD k hlt
      have hst := contains_step (x := s.data.toList) hy
      rw [← Lib.toList_data y, ← Lib.toList_data s] at hst
      have h1 : (0 : Int) ≤ (k : Int) ∧ (k : Int) < 24 := ⟨Int.natCast_nonneg k, by omega⟩
      cases hb : (y.toList == s.toList)
      · have HN : Hid (q = (keptL.drop (k + 1)).contains s.data.toList) := hide (by rw [unhide HQ, ← Lib.toList_data s, hst, hb, Bool.false_or])
        have HM := hide (show (k : Int) < (k : Int) + 1 ∧ (k : Int) + 1 ≤ ((24 : Nat) : Int) by omega)
        clear HQ hst hy RD
        go_wp2_with fail
        go_roundw
        case rel => exact ⟨k + 1, by omega, by first | rfl | go_num, (by first | rfl | trivial), HN⟩
        case measure => exact dec_m (unhide HM).1 (unhide HM).2
      · have HE : q = true := by rw [unhide HQ, ← Lib.toList_data s, hst, hb, Bool.true_or]
        subst HE
        clear HQ hst hy RD
        go_wp2_with fail
        go_ret
        exact ⟨rfl, unhide gW⟩
    · obtain rfl : k = 24 := by omega
      have HE : q = false := by rw [unhide HQ]; rfl
      subst HE
      clear HQ RD hlt
      go_wp2_with fail
      go_ret
      exact ⟨rfl, unhide gW⟩
end Go.Proofs.YtodfcmmdnobdhaaDoor
