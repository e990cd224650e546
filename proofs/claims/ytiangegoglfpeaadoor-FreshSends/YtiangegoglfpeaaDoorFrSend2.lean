/- FreshSends: what it has made when it asks. -/
import Derived.Test.YtiangegoglfpeaaDoorFrSend
namespace Go.Proofs.YtiangegoglfpeaaDoor
set_option maxRecDepth 100000
open Go.RowKit Go.Maps Go.ChangeShapes Go.WideShapes Go.ChangeAt Go.Deep

def sdK14 (b0 b1 : Nat) : List Value := [.int .i64 1, .int .i64 0, .int .i64 1, .int .i64 0, .slice (some ⟨b0, 0, none⟩) 1 1, .slice none 0 0, .slice none 0 0, .int .i64 0, .int .i64 1, .int .i64 1, .int .i64 0, .slice (some ⟨b1, 0, none⟩) 1 1, .slice none 0 0, .slice none 0 0]
def sdK7 (k i : Nat) : List Value := [.int .i64 0, .int .i64 0, .int .i64 5, .int .i64 0, .slice (some ⟨k, 0, none⟩) 5 5, .slice (some ⟨i, 0, none⟩) 5 5, .slice none 0 0]
/-- One function more is appended to a row of two of the call's own. -/
theorem fn_app {Z : World} {b b0 b1 k i : Nat} (hb : Z.heap[b]? = some (.cells (sdK14 b0 b1).toArray 33 (0, 0))) :
    ∃ g cp x', (Builtin.append_ #[27, 27] 27 #[.slice (some ⟨b, 0, none⟩) 2 2, .slice (some ⟨Z.heap.size, 0, none⟩) 1 1]).run Tryd.prog (Z.alloc (.cells (sdK7 k i).toArray 33)) = .ok (.slice (some ⟨g, 0, none⟩) 3 cp) x' ∧
      TrD Z x' (fun q => q = b) ∧ (g = b ∨ Z.heap.size ≤ g) ∧ g < x'.heap.size ∧ 3 ≤ cp ∧ ∀ j u, (sdK14 b0 b1 ++ sdK7 k i)[j]? = some u → x'.cell? ⟨g, j, none⟩ = some u := by
  have hlt : b < Z.heap.size := by
    rcases Nat.lt_or_ge b Z.heap.size with hh | hh
    · exact hh
    · rw [Array.getElem?_eq_none hh] at hb; cases hb
  obtain ⟨i0, hi, hz, hs, hby⟩ := info_parts info_func
  have ga := G.alloc Z (.cells (sdK7 k i).toArray 33)
  have hown : (Z.alloc (.cells (sdK7 k i).toArray 33)).ownsRow b 33 7 (.slice (some ⟨b, 0, none⟩) 2 2) 2 (sdK14 b0 b1) :=
    ⟨rfl, Or.inr ⟨b, 2, (sdK14 b0 b1).toArray, rfl, Nat.le_refl _, (ga.block b hlt).trans hb, Nat.le_refl _, by unfold maxLen; decide, rfl, rfl⟩⟩
  obtain ⟨v', x', hrun, r1, r2, _, r4⟩ := run_append_own_at (P := Tryd.prog) (Z.alloc (.cells (sdK7 k i).toArray 33)) b 27 27 33 i0 _ 7 104 Tryd.underlying27 hi hz hs hby rfl (by decide) _ 2 _ hown ⟨Z.heap.size, 0, none⟩ 1 1 (sdK7 k i) rfl (fun j u hj => by
      rw [Addr.add_lit, cell_of_row _ _ _ _ _ _ (heap_alloc_new Z _), Nat.zero_add]
      simpa using hj) (fun u hu => by
      simp only [sdK7, List.mem_cons, List.not_mem_nil, or_false] at hu
      rcases hu with rfl | rfl | rfl | rfl | rfl | rfl | rfl <;> rfl) (by unfold maxLen; decide) (by decide) (by rw [World.size_alloc]; omega)
  rcases r1.2 with ⟨_, e2⟩ | ⟨g, cap, cur, rfl, h2, h3, h4, h5, h6, h7⟩
  · cases e2
  · have hglt : g < x'.heap.size := by
      rcases Nat.lt_or_ge g x'.heap.size with hh | hh
      · exact hh
      · rw [Array.getElem?_eq_none hh] at h3; cases h3
    refine ⟨g, cap, x', hrun, ⟨r2.os.trans ga.os, r2.tape.trans ga.tape, r2.output.trans ga.output, Nat.le_trans ga.size r2.size, fun q hq hne => (r2.block q (Nat.lt_of_lt_of_le hq ga.size) (fun e => hne (by simpa [Value.ownBlock] using e))).trans (ga.block q hq)⟩, ?_, hglt, h4, fun j u hj => ?_⟩
    · rcases r4 with e | e
      · left; simpa [Value.ownBlock] using e
      · right; rw [World.size_alloc] at e; simp [Value.ownBlock] at e; omega
    · rw [← h7, List.getElem?_take] at hj
      split at hj
      · rw [cell_of_row _ _ _ _ _ _ h3]
        simpa using hj
      · cases hj
theorem rowCa_at (x : World) (b : Nat) (sv : Int) (hb : x.heap[b]? = some (.cells #[.int .i64 1, .int .i64 2, .int .i64 sv, .int .i64 2] 66 (0, 0))) : RowAt elCa x (some ⟨b, 0, none⟩) 1 1 [⟨1, 2, sv, 2⟩] :=
  row_at x b _ _ hb _ 1 1 rfl (by decide) (fun i a hi => by
    match i, hi with
    | 0, hi =>
      cases hi
      exact ⟨_, rfl, fun q u hq => by simpa [elCa] using hq⟩)
theorem rowSp_at (x : World) (b : Nat) (hb : x.heap[b]? = some (.cells #[.int .i64 0, .int .i64 1, .int .u64 1] 64 (0, 0))) : RowAt elSp x (some ⟨b, 0, none⟩) 1 1 [⟨0, 1, 1⟩] :=
  row_at x b _ _ hb _ 1 1 rfl (by decide) (fun i a hi => by
    match i, hi with
    | 0, hi =>
      cases hi
      exact ⟨_, rfl, fun q u hq => by simpa [elSp] using hq⟩)
/-- The rows that the module and the function are made of. -/
structure SdZ (Z : World) (s : Nat) (sv : Int) (i : In) : Prop where
  z0 : Z.heap[s]? = some (.cells #[.bool true] 4 (0, 0))
  z1 : Z.heap[s + 1]? = some (.cells #[.int .i64 0, .int .i64 1, .int .u64 1] 64 (0, 0))
  z2 : Z.heap[s + 2]? = some (.cells #[.int .i64 1, .int .i64 2, .int .i64 sv, .int .i64 2] 66 (0, 0))
  z4 : Z.heap[s + 4]? = some (.cells #[.bool true] 4 (0, 0))
  z5 : Z.heap[s + 5]? = some (.cells #[.bool true] 4 (0, 0))
  z8 : Z.heap[s + 8]? = some (.cells #[.bool true, .bool true, .bool true, .bool true, .bool true] 4 (0, 0))
  z9 : Z.heap[s + 9]? = some (.cells (insV (sdC i)).toArray 37 (0, 0))
  sz : s + 11 ≤ Z.heap.size
theorem SdZ.out {Z Y : World} {s g cp : Nat} {sv : Int} {i : In} (h : SdZ Z s sv i) (hk : ∀ k, k < Z.heap.size → k ≠ s + 6 → k ≠ s + 3 → Y.heap[k]? = Z.heap[k]?) (hc : ∀ j u, (sdK14 (s + 4) (s + 5) ++ sdK7 (s + 8) (s + 9))[j]? = some u → Y.cell? ⟨g, j, none⟩ = some u) (hg : g < Y.heap.size) :
    ModR Y (sdM sv i) (some ⟨s + 1, 0, none⟩) 1 (some ⟨s, 0, none⟩) 1 none 0 (some ⟨s + 2, 0, none⟩) 1 (some ⟨g, 0, none⟩) cp ∧ RowAt elIn Y (some ⟨s + 9, 0, none⟩) 5 5 (sdC i) ∧ RowAt elB Y (some ⟨s + 8, 0, none⟩) 5 5 [true, true, true, true, true] := by
  have sz := h.sz
  have y0 := (hk s (by omega) (by omega) (by omega)).trans h.z0
  have y1 := (hk (s + 1) (by omega) (by omega) (by omega)).trans h.z1
  have y2 := (hk (s + 2) (by omega) (by omega) (by omega)).trans h.z2
  have y4 := (hk (s + 4) (by omega) (by omega) (by omega)).trans h.z4
  have y5 := (hk (s + 5) (by omega) (by omega) (by omega)).trans h.z5
  have y8 := (hk (s + 8) (by omega) (by omega) (by omega)).trans h.z8
  have y9 := (hk (s + 9) (by omega) (by omega) (by omega)).trans h.z9
  have r8 := rowB_at Y (s + 8) [true, true, true, true, true] 5 5 rfl (by decide) y8
  have r9 := rowIn_at Y (s + 9) (sdC i) 5 5 rfl (by decide) y9
  have r4 := rowB_at Y (s + 4) [true] 1 1 rfl (by decide) y4
  have r5 := rowB_at Y (s + 5) [true] 1 1 rfl (by decide) y5
  refine ⟨⟨rowSp_at Y (s + 1) y1, rowB_at Y s [true] 1 1 rfl (by decide) y0, RowAt.nil Y, rowCa_at Y (s + 2) sv y2, ?_, Nat.le_refl 1⟩, r9, r8⟩
  refine ⟨rfl, (by unfold maxLen; show 3 ≤ 2 ^ 63 - 1; decide), (fun e => by cases e), Or.inr ⟨g, 0, rfl, hg, fun q a hq => ?_⟩⟩
  match q, hq with
  | 0, hq =>
    cases hq
    exact ⟨_, ⟨some ⟨s + 4, 0, none⟩, 1, none, 0, none, 0, rfl, r4, RowAt.nil Y, RowAt.nil Y⟩, fun j u hj => by
      have hjl : j < 7 := (List.getElem?_eq_some_iff.1 hj).1
      rw [show (0 + 0 * elFn.sz + j) = j by simp]
      refine hc j u ?_
      match j, hj with
      | 0, hj => exact hj
      | 1, hj => exact hj
      | 2, hj => exact hj
      | 3, hj => exact hj
      | 4, hj => exact hj
      | 5, hj => exact hj
      | 6, hj => exact hj⟩
  | 1, hq =>
    cases hq
    exact ⟨_, ⟨some ⟨s + 5, 0, none⟩, 1, none, 0, none, 0, rfl, r5, RowAt.nil Y, RowAt.nil Y⟩, fun j u hj => by
      have hjl : j < 7 := (List.getElem?_eq_some_iff.1 hj).1
      rw [show (0 + 1 * elFn.sz + j) = 7 + j by simp [elFn]]
      refine hc (7 + j) u ?_
      match j, hj with
      | 0, hj => exact hj
      | 1, hj => exact hj
      | 2, hj => exact hj
      | 3, hj => exact hj
      | 4, hj => exact hj
      | 5, hj => exact hj
      | 6, hj => exact hj⟩
  | 2, hq =>
    cases hq
    exact ⟨_, ⟨some ⟨s + 8, 0, none⟩, 5, some ⟨s + 9, 0, none⟩, 5, none, 0, rfl, r8, r9, RowAt.nil Y⟩, fun j u hj => by
      have hjl : j < 7 := (List.getElem?_eq_some_iff.1 hj).1
      rw [show (0 + 2 * elFn.sz + j) = 14 + j by simp [elFn]]
      refine hc (14 + j) u ?_
      match j, hj with
      | 0, hj => exact hj
      | 1, hj => exact hj
      | 2, hj => exact hj
      | 3, hj => exact hj
      | 4, hj => exact hj
      | 5, hj => exact hj
      | 6, hj => exact hj⟩
theorem sd_oIn (sv : Int) (hv : 0 ≤ sv ∧ sv ≤ 3) (how : Nat) (i : In) (hi : (sdI sv)[how]? = some i) : ∀ x ∈ sdC i, oIn x := by
  refine pr_oIn _ (fun x hx => ?_)
  have hm : i ∈ sdI sv := List.mem_of_getElem? hi
  simp only [sdC, sdI, List.mem_cons, List.not_mem_nil, or_false] at hx hm
  rcases hx with rfl | rfl | rfl | rfl | rfl
  · decide
  · rcases hm with rfl | rfl | rfl | rfl | rfl | rfl <;> simp only <;> omega
  · decide
  · decide
  · decide
theorem sd_spare {Y : World} {s g cp how : Nat} {other : Bool} {i : In} (hh : how < 6) (hi : (sdI (sdV other))[how]? = some i) (h : ModR Y (sdM (sdV other) i) (some ⟨s + 1, 0, none⟩) 1 (some ⟨s, 0, none⟩) 1 none 0 (some ⟨s + 2, 0, none⟩) 1 (some ⟨g, 0, none⟩) cp) (h9 : RowAt elIn Y (some ⟨s + 9, 0, none⟩) 5 5 (sdC i)) (h8 : RowAt elB Y (some ⟨s + 8, 0, none⟩) 5 5 [true, true, true, true, true]) (ht : TabZ Y) (hw : RowsAt Y) :
    Calls Tryd.prog 9 #[.agg #[.slice (some ⟨s + 1, 0, none⟩) 1 1, .slice (some ⟨s, 0, none⟩) 1 1, .slice none 0 0, .slice (some ⟨s + 2, 0, none⟩) 1 1, .slice (some ⟨g, 0, none⟩) 3 cp, .int .i64 0], .agg #[.int .i64 0, .int .i64 0, .int .i64 5, .int .i64 0, .slice (some ⟨s + 8, 0, none⟩) 5 5, .slice (some ⟨s + 9, 0, none⟩) 5 5, .slice none 0 0], .int .i64 3] Y fun e w' => e = .returned (.bool other) ∧ G Y w' := by
  have hv : 0 ≤ sdV other ∧ sdV other ≤ 3 := by cases other <;> decide
  have := spare_any Y (sdM (sdV other) i) (some ⟨s + 1, 0, none⟩) 1 (some ⟨s, 0, none⟩) 1 none 0 (some ⟨s + 2, 0, none⟩) 1 (some ⟨g, 0, none⟩) cp (sdF i) (some ⟨s + 8, 0, none⟩) 5 (some ⟨s + 9, 0, none⟩) 5 none 0 h h9 h8 ht hw (sd_oIn _ hv how i hi) (fun c hc => by
    simp only [sdM, List.mem_cons, List.not_mem_nil, or_false] at hc
    subst hc
    exact ⟨oI_s 1 (by decide), oI_s 2 (by decide), oI_s _ (by simp only; omega), oI_s 2 (by decide)⟩) (by show 5 + 2 * 1 ≤ 1000000; decide) 3
  rw [sd_sp how hh other i hi] at this
  exact this
end Go.Proofs.YtiangegoglfpeaaDoor
