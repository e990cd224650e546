/- slices.Sort and slices.Compact at []int. -/
import Derived.Test.YtiangegoglfpeaaDoorLivePl
import Derived.Test.YtiangegoglfpeaaDoorLiveNw
import Derived.Shelf.SortM.Plain
import Derived.Shelf.SortM.SortNone
import Derived.Shelf.SlGeneric
import Derived.Ground.SlgmProg
import Derived.Shelf.Lay
import Derived.Shelf.Slices.CompactI
import Derived.Ground.Names2Prog
namespace Go.Proofs.YtiangegoglfpeaaDoor
set_option maxRecDepth 100000
open Go.ChangeShapes Go.WideShapes Go.ChangeAt Go.RowKit Go.Maps Go.Sort
def sortLay_ren : Go.Shelf.Ren := ⟨fun | 5 => 77 | 8 => 81 | 7 => 80 | 19 => 91 | 20 => 92 | 10 => 82 | 11 => 83 | 12 => 84 | 13 => 85 | 14 => 86 | 15 => 87 | 16 => 88 | 17 => 89 | 18 => 90 | 30 => 93 | 31 => 94 | 32 => 95 | 33 => 96 | 34 => 97 | 35 => 98 | 40 => 99 | n => n, fun | 23 => 100 | 25 => 3 | 3 => 3 | 32 => 118 | 22 => 100 | 0 => 0 | 44 => 162 | 46 => 57 | 4 => 4 | 36 => 155 | 35 => 154 | 41 => 159 | 5 => 5 | 9 => 9 | 53 => 163 | 57 => 167 | 63 => 169 | 64 => 170 | n => n, fun | n => n⟩
theorem sortLay : Go.Proofs.SlLaysM.n5 Tryd.prog sortLay_ren := {
  mixed := by kernel_rfl
  f5 := ⟨Tryd.f77.name, by decide, Tryd.func77.trans (congrArg some (by kernel_rfl))⟩
  f7 := ⟨Tryd.f80.name, by decide, Tryd.func80.trans (congrArg some (by kernel_rfl))⟩
  f8 := Tryd.func81.trans (congrArg some (by kernel_rfl))
  f10 := ⟨Tryd.f82.name, by decide, Tryd.func82.trans (congrArg some (by kernel_rfl))⟩
  f11 := ⟨Tryd.f83.name, by decide, Tryd.func83.trans (congrArg some (by kernel_rfl))⟩
  f12 := ⟨Tryd.f84.name, by decide, Tryd.func84.trans (congrArg some (by kernel_rfl))⟩
  f13 := ⟨Tryd.f85.name, by decide, Tryd.func85.trans (congrArg some (by kernel_rfl))⟩
  f14 := ⟨Tryd.f86.name, by decide, Tryd.func86.trans (congrArg some (by kernel_rfl))⟩
  f15 := ⟨Tryd.f87.name, by decide, Tryd.func87.trans (congrArg some (by kernel_rfl))⟩
  f16 := ⟨Tryd.f88.name, by decide, Tryd.func88.trans (congrArg some (by kernel_rfl))⟩
  f17 := ⟨Tryd.f89.name, by decide, Tryd.func89.trans (congrArg some (by kernel_rfl))⟩
  f18 := ⟨Tryd.f90.name, by decide, Tryd.func90.trans (congrArg some (by kernel_rfl))⟩
  f19 := Tryd.func91.trans (congrArg some (by kernel_rfl))
  f20 := Tryd.func92.trans (congrArg some (by kernel_rfl))
  f30 := ⟨Tryd.f93.name, by decide, Tryd.func93.trans (congrArg some (by kernel_rfl))⟩
  f31 := Tryd.func94.trans (congrArg some (by kernel_rfl))
  f32 := Tryd.func95.trans (congrArg some (by kernel_rfl))
  f33 := ⟨Tryd.f96.name, by decide, Tryd.func96.trans (congrArg some (by kernel_rfl))⟩
  f34 := ⟨Tryd.f97.name, by decide, Tryd.func97.trans (congrArg some (by kernel_rfl))⟩
  f35 := ⟨Tryd.f98.name, by decide, Tryd.func98.trans (congrArg some (by kernel_rfl))⟩
  f40 := ⟨Tryd.f99.name, by decide, Tryd.func99.trans (congrArg some (by kernel_rfl))⟩
  t0 := Tryd.underlying0
  a0 := Tryd.isAgg0
  z0 := Tryd.sizeOf0
  v0 := Tryd.zeroValue0
  t3 := Tryd.underlying3
  a3 := Tryd.isAgg3
  z3 := Tryd.sizeOf3
  v3 := Tryd.zeroValue3
  t4 := Tryd.underlying4
  a4 := Tryd.isAgg4
  z4 := Tryd.sizeOf4
  v4 := Tryd.zeroValue4
  t5 := Tryd.underlying5
  a5 := Tryd.isAgg5
  z5 := Tryd.sizeOf5
  v5 := Tryd.zeroValue5
  t9 := Tryd.underlying9
  a9 := Tryd.isAgg9
  z9 := Tryd.sizeOf9
  v9 := Tryd.zeroValue9
  t22 := Tryd.underlying100
  a22 := Tryd.isAgg100
  z22 := Tryd.sizeOf100
  v22 := Tryd.zeroValue100
  t23 := Tryd.underlying100
  a23 := Tryd.isAgg100
  z23 := Tryd.sizeOf100
  v23 := Tryd.zeroValue100
  t25 := Tryd.underlying3
  a25 := Tryd.isAgg3
  z25 := Tryd.sizeOf3
  v25 := Tryd.zeroValue3
  t32 := Tryd.underlying118
  a32 := Tryd.isAgg118
  z32 := Tryd.sizeOf118
  v32 := Tryd.zeroValue118
  t35 := Tryd.underlying154
  a35 := Tryd.isAgg154
  z35 := Tryd.sizeOf154
  v35 := Tryd.zeroValue154
  t36 := Tryd.underlying155
  a36 := Tryd.isAgg155
  z36 := Tryd.sizeOf155
  v36 := Tryd.zeroValue155
  t41 := Tryd.underlying159
  a41 := Tryd.isAgg159
  z41 := Tryd.sizeOf159
  v41 := Tryd.zeroValue159
  t44 := Tryd.underlying162
  a44 := Tryd.isAgg162
  z44 := Tryd.sizeOf162
  v44 := Tryd.zeroValue162
  t46 := Tryd.underlying57
  a46 := Tryd.isAgg57
  z46 := Tryd.sizeOf57
  v46 := Tryd.zeroValue57
  t53 := Tryd.underlying163
  a53 := Tryd.isAgg163
  z53 := Tryd.sizeOf163
  v53 := Tryd.zeroValue163
  t57 := Tryd.underlying167
  a57 := Tryd.isAgg167
  z57 := Tryd.sizeOf167
  v57 := Tryd.zeroValue167
  t63 := Tryd.underlying169
  a63 := Tryd.isAgg169
  z63 := Tryd.sizeOf169
  v63 := Tryd.zeroValue169
  t64 := Tryd.underlying170
  a64 := Tryd.isAgg170
  z64 := Tryd.sizeOf170
  v64 := Tryd.zeroValue170 }
def compactLay_ren : Go.Shelf.Ren := ⟨fun | 20 => 78 | n => n, fun | 22 => 100 | 3 => 3 | 4 => 4 | 0 => 0 | n => n, fun | n => n⟩
theorem compactLay : Go.Proofs.Lays2.n20 Tryd.prog compactLay_ren := {
  mixed := by kernel_rfl
  f20 := Tryd.func78.trans (congrArg some (by kernel_rfl))
  t0 := Tryd.underlying0
  a0 := Tryd.isAgg0
  z0 := Tryd.sizeOf0
  v0 := Tryd.zeroValue0
  t3 := Tryd.underlying3
  a3 := Tryd.isAgg3
  z3 := Tryd.sizeOf3
  v3 := Tryd.zeroValue3
  t4 := Tryd.underlying4
  a4 := Tryd.isAgg4
  z4 := Tryd.sizeOf4
  v4 := Tryd.zeroValue4
  t22 := Tryd.underlying100
  a22 := Tryd.isAgg100
  z22 := Tryd.sizeOf100
  v22 := Tryd.zeroValue100
  i3 := by kernel_rfl }

/-- A row of ints of the call's own that may be written. -/
def RowS (w : World) (B : Nat) (v : Value) (l : List Int) : Prop := (v = .slice none 0 0 ∧ l = []) ∨ ∃ g cap, v = .slice (some ⟨g, 0, none⟩) l.length cap ∧ B ≤ g ∧ g < w.heap.size ∧ l.length ≤ cap ∧ cap ≤ maxLen ∧ Holds (Value.int .i64) w g 0 l.toArray
theorem OwnL.rows {w : World} {B : Nat} {v : Value} {l : List Int} (h : OwnL w B v l) : RowS w B v l := by
  rcases h.2 with ⟨rfl, e2⟩ | ⟨g, cap, cur, rfl, h2, h3, h4, h5, h6, h7⟩
  · exact Or.inl ⟨rfl, List.eq_nil_of_length_eq_zero e2⟩
  · have hlt : g < w.heap.size := by
      rcases Nat.lt_or_ge g w.heap.size with hh | hh
      · exact hh
      · rw [Array.getElem?_eq_none hh] at h3; cases h3
    refine Or.inr ⟨g, cap, rfl, h2, hlt, h4, h5, fun j hj => ⟨?_, ?_⟩⟩
    · have hj' : j < l.length := by simpa using hj
      have h8 : (l.map (Value.int .i64))[j]? = some (.int .i64 l[j]) := by simp [hj']
      rw [← h7, List.getElem?_take] at h8
      split at h8
      · rw [cell_of_row _ _ _ _ _ _ h3, Nat.zero_add]
        have : (l.toArray)[j]! = l[j] := by simp [hj']
        rw [this]
        simpa using h8
      · cases h8
    · unfold World.frozen?
      rw [h3]
      simp
theorem putRow_block {w : World} {g off : Nat} {d : Array Int} {k : Nat} (n : Nat) (hk : k ≠ g) : (putRow (Value.int .i64) (Sort.ahead w n) g off d).heap[k]? = w.heap[k]? := by
  have hg : g ≠ k := fun e => hk e.symm
  simp [putRow, mapBlock, Sort.ahead, Array.getElem?_modify, hg]
theorem sort_own {w : World} {B : Nat} {v : Value} {l : List Int} (h : RowS w B v l) (hn : l.length ≤ 1000000) :
    Calls Tryd.prog 77 #[v] w fun r w' => r = .returned (.tuple #[]) ∧ RowS w' B v (srtL l) ∧ Below B w w' := by
  rcases h with ⟨rfl, rfl⟩ | ⟨g, cap, rfl, h1, h2, h3, h4, hH⟩
  · refine Calls.mono (AnyM.slices_Sort_int_none sortLay none 0 w) ?_
    rintro e w' ⟨rfl, rfl⟩
    exact ⟨rfl, Or.inl ⟨rfl, by simp [srtL]⟩, Below.refl _ _⟩
  · refine Calls.mono (AnyM.slices_Sort_int sortLay g 0 cap l w hH h2 (by omega)) ?_
    rintro e w' ⟨rfl, n, os, rfl⟩
    have hl := srtL_len l
    have hsz : (srtL l).toArray.size = l.toArray.size := by simp
    have hP := holds_putRow (Value.int .i64) (Sort.ahead w n) g 0 l.toArray (srtL l).toArray hH hsz
    have kb : ∀ k, k < w.heap.size → (grow (putRow (Value.int .i64) (Sort.ahead w n) g 0 (srtL l).toArray) os).heap[k]? = (putRow (Value.int .i64) (Sort.ahead w n) g 0 (srtL l).toArray).heap[k]? := fun k hk => heap_grow_old _ _ (by simpa using hk)
    refine ⟨rfl, Or.inr ⟨g, cap, by rw [hl], h1, by simp; omega, by rw [hl]; exact h3, h4, fun j hj => ?_⟩, ⟨rfl, rfl, rfl, by simp, fun k hk => ?_⟩⟩
    · rw [World.cell?_of_block (a := ⟨g, 0 + j, none⟩) (kb g h2), World.frozen?_of_block (a := ⟨g, 0 + j, none⟩) (kb g h2)]
      exact hP j hj
    · by_cases hks : k < w.heap.size
      · rw [kb k hks, putRow_block n (by omega)]
      · omega
theorem compact_own {w : World} {B : Nat} {v : Value} {l : List Int} (h : RowS w B v l) (hn : l.length ≤ 1000000) :
    Calls Tryd.prog 78 #[v] w fun r w' => ∃ v', r = .returned v' ∧ NwL B w' v' (Lib.compact l) ∧ Below B w w' := by
  rcases h with ⟨rfl, rfl⟩ | ⟨g, cap, rfl, h1, h2, h3, h4, hH⟩
  · refine Calls.mono (Any.slices_Compact_int_empty compactLay none 0 w) ?_
    rintro e w' ⟨rfl, rfl⟩
    exact ⟨_, rfl, nwl_nil _ _, Below.refl _ _⟩
  · refine Calls.mono (Any.slices_Compact_int compactLay g 0 cap l w hH (by omega) h3) ?_
    rintro e w' ⟨rfl, n, rfl⟩
    have hcl := comp_len l
    have hsz : (Lib.compact l ++ List.replicate (l.length - (Lib.compact l).length) 0).toArray.size = l.toArray.size := by simp; omega
    have hP := holds_putRow (Value.int .i64) (Sort.ahead w n) g 0 l.toArray _ hH hsz
    refine ⟨_, rfl, ⟨⟨some ⟨g, 0, none⟩, cap, rfl, by omega, rfl, by omega, (fun e => by cases e), Or.inr ⟨g, 0, rfl, by simpa using h2, fun i a hi => ⟨[.int .i64 a], rfl, fun q u hq => ?_⟩⟩⟩, (fun a n c e => by cases e; exact h1)⟩, ⟨rfl, rfl, rfl, by simp, fun k hk => putRow_block n (by omega)⟩⟩
    match q, hq with
    | 0, hq =>
      simp at hq
      subst hq
      have hil := (List.getElem?_eq_some_iff.1 hi).1
      have hp := (hP i (by simp; omega)).1
      have e1 : (Lib.compact l ++ List.replicate (l.length - (Lib.compact l).length) 0).toArray[i]! = a := by
        have : (Lib.compact l ++ List.replicate (l.length - (Lib.compact l).length) (0 : Int))[i]? = some a := by rw [List.getElem?_append_left hil]; exact hi
        simp [this]
      rw [e1] at hp
      simpa [elI] using hp
    | q + 1, hq => simp at hq
end Go.Proofs.YtiangegoglfpeaaDoor
