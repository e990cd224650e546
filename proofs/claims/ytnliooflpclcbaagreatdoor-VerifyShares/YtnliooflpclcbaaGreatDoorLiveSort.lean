/- slices.Sort and slices.Compact at []int. -/
import Derived.Test.YtnliooflpclcbaaGreatDoorLivePl
import Derived.Test.YtnliooflpclcbaaGreatDoorLiveNw
import Derived.Shelf.SortM.Plain
import Derived.Shelf.SortM.SortNone
import Derived.Shelf.SlGeneric
import Derived.Ground.SlgmProg
import Derived.Shelf.Lay
import Derived.Shelf.Slices.CompactI
import Derived.Ground.Names2Prog
namespace Go.Proofs.YtnliooflpclcbaaGreatDoor
set_option maxRecDepth 100000
open Go.ChangeShapes Go.WideShapes Go.ChangeAt Go.RowKit Go.Maps Go.Sort
def sortLay_ren : Go.Shelf.Ren := ⟨fun | 5 => 76 | 8 => 87 | 7 => 86 | 19 => 106 | 20 => 107 | 10 => 97 | 11 => 98 | 12 => 99 | 13 => 100 | 14 => 101 | 15 => 102 | 16 => 103 | 17 => 104 | 18 => 105 | 30 => 118 | 31 => 119 | 32 => 120 | 33 => 121 | 34 => 122 | 35 => 123 | 40 => 125 | n => n, fun | 23 => 55 | 25 => 3 | 3 => 3 | 32 => 93 | 22 => 55 | 0 => 0 | 44 => 165 | 46 => 35 | 4 => 4 | 36 => 159 | 35 => 158 | 41 => 125 | 5 => 5 | 9 => 9 | 53 => 173 | 57 => 177 | 63 => 183 | 64 => 184 | n => n, fun | n => n⟩
theorem sortLay : Go.Proofs.SlLaysM.n5 Tryz.prog sortLay_ren := {
  mixed := by kernel_rfl
  f5 := ⟨Tryz.f76.name, by decide, Tryz.func76.trans (congrArg some (by kernel_rfl))⟩
  f7 := ⟨Tryz.f86.name, by decide, Tryz.func86.trans (congrArg some (by kernel_rfl))⟩
  f8 := Tryz.func87.trans (congrArg some (by kernel_rfl))
  f10 := ⟨Tryz.f97.name, by decide, Tryz.func97.trans (congrArg some (by kernel_rfl))⟩
  f11 := ⟨Tryz.f98.name, by decide, Tryz.func98.trans (congrArg some (by kernel_rfl))⟩
  f12 := ⟨Tryz.f99.name, by decide, Tryz.func99.trans (congrArg some (by kernel_rfl))⟩
  f13 := ⟨Tryz.f100.name, by decide, Tryz.func100.trans (congrArg some (by kernel_rfl))⟩
  f14 := ⟨Tryz.f101.name, by decide, Tryz.func101.trans (congrArg some (by kernel_rfl))⟩
  f15 := ⟨Tryz.f102.name, by decide, Tryz.func102.trans (congrArg some (by kernel_rfl))⟩
  f16 := ⟨Tryz.f103.name, by decide, Tryz.func103.trans (congrArg some (by kernel_rfl))⟩
  f17 := ⟨Tryz.f104.name, by decide, Tryz.func104.trans (congrArg some (by kernel_rfl))⟩
  f18 := ⟨Tryz.f105.name, by decide, Tryz.func105.trans (congrArg some (by kernel_rfl))⟩
  f19 := Tryz.func106.trans (congrArg some (by kernel_rfl))
  f20 := Tryz.func107.trans (congrArg some (by kernel_rfl))
  f30 := ⟨Tryz.f118.name, by decide, Tryz.func118.trans (congrArg some (by kernel_rfl))⟩
  f31 := Tryz.func119.trans (congrArg some (by kernel_rfl))
  f32 := Tryz.func120.trans (congrArg some (by kernel_rfl))
  f33 := ⟨Tryz.f121.name, by decide, Tryz.func121.trans (congrArg some (by kernel_rfl))⟩
  f34 := ⟨Tryz.f122.name, by decide, Tryz.func122.trans (congrArg some (by kernel_rfl))⟩
  f35 := ⟨Tryz.f123.name, by decide, Tryz.func123.trans (congrArg some (by kernel_rfl))⟩
  f40 := ⟨Tryz.f125.name, by decide, Tryz.func125.trans (congrArg some (by kernel_rfl))⟩
  t0 := Tryz.underlying0
  a0 := Tryz.isAgg0
  z0 := Tryz.sizeOf0
  v0 := Tryz.zeroValue0
  t3 := Tryz.underlying3
  a3 := Tryz.isAgg3
  z3 := Tryz.sizeOf3
  v3 := Tryz.zeroValue3
  t4 := Tryz.underlying4
  a4 := Tryz.isAgg4
  z4 := Tryz.sizeOf4
  v4 := Tryz.zeroValue4
  t5 := Tryz.underlying5
  a5 := Tryz.isAgg5
  z5 := Tryz.sizeOf5
  v5 := Tryz.zeroValue5
  t9 := Tryz.underlying9
  a9 := Tryz.isAgg9
  z9 := Tryz.sizeOf9
  v9 := Tryz.zeroValue9
  t22 := Tryz.underlying55
  a22 := Tryz.isAgg55
  z22 := Tryz.sizeOf55
  v22 := Tryz.zeroValue55
  t23 := Tryz.underlying55
  a23 := Tryz.isAgg55
  z23 := Tryz.sizeOf55
  v23 := Tryz.zeroValue55
  t25 := Tryz.underlying3
  a25 := Tryz.isAgg3
  z25 := Tryz.sizeOf3
  v25 := Tryz.zeroValue3
  t32 := Tryz.underlying93
  a32 := Tryz.isAgg93
  z32 := Tryz.sizeOf93
  v32 := Tryz.zeroValue93
  t35 := Tryz.underlying158
  a35 := Tryz.isAgg158
  z35 := Tryz.sizeOf158
  v35 := Tryz.zeroValue158
  t36 := Tryz.underlying159
  a36 := Tryz.isAgg159
  z36 := Tryz.sizeOf159
  v36 := Tryz.zeroValue159
  t41 := Tryz.underlying125
  a41 := Tryz.isAgg125
  z41 := Tryz.sizeOf125
  v41 := Tryz.zeroValue125
  t44 := Tryz.underlying165
  a44 := Tryz.isAgg165
  z44 := Tryz.sizeOf165
  v44 := Tryz.zeroValue165
  t46 := Tryz.underlying35
  a46 := Tryz.isAgg35
  z46 := Tryz.sizeOf35
  v46 := Tryz.zeroValue35
  t53 := Tryz.underlying173
  a53 := Tryz.isAgg173
  z53 := Tryz.sizeOf173
  v53 := Tryz.zeroValue173
  t57 := Tryz.underlying177
  a57 := Tryz.isAgg177
  z57 := Tryz.sizeOf177
  v57 := Tryz.zeroValue177
  t63 := Tryz.underlying183
  a63 := Tryz.isAgg183
  z63 := Tryz.sizeOf183
  v63 := Tryz.zeroValue183
  t64 := Tryz.underlying184
  a64 := Tryz.isAgg184
  z64 := Tryz.sizeOf184
  v64 := Tryz.zeroValue184 }
def compactLay_ren : Go.Shelf.Ren := ⟨fun | 20 => 77 | n => n, fun | 22 => 55 | 3 => 3 | 4 => 4 | 0 => 0 | n => n, fun | n => n⟩
theorem compactLay : Go.Proofs.Lays2.n20 Tryz.prog compactLay_ren := {
  mixed := by kernel_rfl
  f20 := Tryz.func77.trans (congrArg some (by kernel_rfl))
  t0 := Tryz.underlying0
  a0 := Tryz.isAgg0
  z0 := Tryz.sizeOf0
  v0 := Tryz.zeroValue0
  t3 := Tryz.underlying3
  a3 := Tryz.isAgg3
  z3 := Tryz.sizeOf3
  v3 := Tryz.zeroValue3
  t4 := Tryz.underlying4
  a4 := Tryz.isAgg4
  z4 := Tryz.sizeOf4
  v4 := Tryz.zeroValue4
  t22 := Tryz.underlying55
  a22 := Tryz.isAgg55
  z22 := Tryz.sizeOf55
  v22 := Tryz.zeroValue55
  i3 := by kernel_rfl }

/-- A row of ints of the call's own that may be written. -/
def RowS (w : World) (B : Nat) (v : Value) (l : List Int) : Prop := (v = .slice none 0 0 ∧ l = []) ∨ ∃ g cap, v = .slice (some ⟨g, 0, none⟩) l.length cap ∧ B ≤ g ∧ g < w.heap.size ∧ l.length ≤ cap ∧ cap ≤ maxLen ∧ Holds (Value.int .i64) w g 0 l.toArray
theorem OwnL.rows {w : World} {B : Nat} {v : Value} {l : List Int} (h : OwnL w B v l) : RowS w B v l := by
  rcases h.2 with ⟨rfl, e2⟩ | ⟨g, cap, cur, rfl, h2, h3, h4, h5, h6, h7⟩
  · exact Or.inl ⟨rfl, List.eq_nil_of_length_eq_zero e2⟩
  · have hlt : g < w.heap.size := by
      rcases Nat.lt_or_ge g w.heap.size with hh | hh
      · exact hh
      · rw [Array.getElem?_eq_none hh] at h3; cases h3
    refine Or.inr ⟨g, cap, rfl, h2, hlt, h4, h5, fun j hj => ⟨?_, ?_⟩⟩
    · have hj' : j < l.length := by simpa using hj
      have h8 : (l.map (Value.int .i64))[j]? = some (.int .i64 l[j]) := by simp [hj']
      rw [← h7, List.getElem?_take] at h8
      split at h8
      · rw [cell_of_row _ _ _ _ _ _ h3, Nat.zero_add]
        have : (l.toArray)[j]! = l[j] := by simp [hj']
        rw [this]
        simpa using h8
      · cases h8
    · unfold World.frozen?
      rw [h3]
      simp
theorem putRow_block {w : World} {g off : Nat} {d : Array Int} {k : Nat} (n : Nat) (hk : k ≠ g) : (putRow (Value.int .i64) (Sort.ahead w n) g off d).heap[k]? = w.heap[k]? := by
  have hg : g ≠ k := fun e => hk e.symm
  simp [putRow, mapBlock, Sort.ahead, Array.getElem?_modify, hg]
theorem sort_own {w : World} {B : Nat} {v : Value} {l : List Int} (h : RowS w B v l) (hn : l.length ≤ 1000000) :
    Calls Tryz.prog 76 #[v] w fun r w' => r = .returned (.tuple #[]) ∧ RowS w' B v (srtL l) ∧ Below B w w' := by
  rcases h with ⟨rfl, rfl⟩ | ⟨g, cap, rfl, h1, h2, h3, h4, hH⟩
  · refine Calls.mono (AnyM.slices_Sort_int_none sortLay none 0 w) ?_
    rintro e w' ⟨rfl, rfl⟩
    exact ⟨rfl, Or.inl ⟨rfl, by simp [srtL]⟩, Below.refl _ _⟩
  · refine Calls.mono (AnyM.slices_Sort_int sortLay g 0 cap l w hH h2 (by omega)) ?_
    rintro e w' ⟨rfl, n, os, rfl⟩
    have hl := srtL_len l
    have hsz : (srtL l).toArray.size = l.toArray.size := by simp
    have hP := holds_putRow (Value.int .i64) (Sort.ahead w n) g 0 l.toArray (srtL l).toArray hH hsz
    have kb : ∀ k, k < w.heap.size → (grow (putRow (Value.int .i64) (Sort.ahead w n) g 0 (srtL l).toArray) os).heap[k]? = (putRow (Value.int .i64) (Sort.ahead w n) g 0 (srtL l).toArray).heap[k]? := fun k hk => heap_grow_old _ _ (by simpa using hk)
    refine ⟨rfl, Or.inr ⟨g, cap, by rw [hl], h1, by simp; omega, by rw [hl]; exact h3, h4, fun j hj => ?_⟩, ⟨rfl, rfl, rfl, by simp, fun k hk => ?_⟩⟩
    · rw [World.cell?_of_block (a := ⟨g, 0 + j, none⟩) (kb g h2), World.frozen?_of_block (a := ⟨g, 0 + j, none⟩) (kb g h2)]
      exact hP j hj
    · by_cases hks : k < w.heap.size
      · rw [kb k hks, putRow_block n (by omega)]
      · omega
theorem compact_own {w : World} {B : Nat} {v : Value} {l : List Int} (h : RowS w B v l) (hn : l.length ≤ 1000000) :
    Calls Tryz.prog 77 #[v] w fun r w' => ∃ v', r = .returned v' ∧ NwL B w' v' (Lib.compact l) ∧ Below B w w' := by
  rcases h with ⟨rfl, rfl⟩ | ⟨g, cap, rfl, h1, h2, h3, h4, hH⟩
  · refine Calls.mono (Any.slices_Compact_int_empty compactLay none 0 w) ?_
    rintro e w' ⟨rfl, rfl⟩
    exact ⟨_, rfl, nwl_nil _ _, Below.refl _ _⟩
  · refine Calls.mono (Any.slices_Compact_int compactLay g 0 cap l w hH (by omega) h3) ?_
    rintro e w' ⟨rfl, n, rfl⟩
    have hcl := comp_len l
    have hsz : (Lib.compact l ++ List.replicate (l.length - (Lib.compact l).length) 0).toArray.size = l.toArray.size := by simp; omega
    have hP := holds_putRow (Value.int .i64) (Sort.ahead w n) g 0 l.toArray _ hH hsz
    refine ⟨_, rfl, ⟨⟨some ⟨g, 0, none⟩, cap, rfl, by omega, rfl, by omega, (fun e => by cases e), Or.inr ⟨g, 0, rfl, by simpa using h2, fun i a hi => ⟨[.int .i64 a], rfl, fun q u hq => ?_⟩⟩⟩, (fun a n c e => by cases e; exact h1)⟩, ⟨rfl, rfl, rfl, by simp, fun k hk => putRow_block n (by omega)⟩⟩
    match q, hq with
    | 0, hq =>
      simp at hq
      subst hq
      have hil := (List.getElem?_eq_some_iff.1 hi).1
      have hp := (hP i (by simp; omega)).1
      have e1 : (Lib.compact l ++ List.replicate (l.length - (Lib.compact l).length) 0).toArray[i]! = a := by
        have : (Lib.compact l ++ List.replicate (l.length - (Lib.compact l).length) (0 : Int))[i]? = some a := by rw [List.getElem?_append_left hil]; exact hi
        simp [this]
      rw [e1] at hp
      simpa [elI] using hp
    | q + 1, hq => simp at hq
end Go.Proofs.YtnliooflpclcbaaGreatDoor
