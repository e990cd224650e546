/- slices.Sort and slices.Compact at []int. -/
import Derived.Test.YtpbeafgfhnlmbaaLivePl
import Derived.Test.YtpbeafgfhnlmbaaLiveNw
import Derived.Shelf.SortM.Plain
import Derived.Shelf.SortM.SortNone
import Derived.Shelf.SlGeneric
import Derived.Ground.SlgmProg
import Derived.Shelf.Lay
import Derived.Shelf.Slices.CompactI
import Derived.Ground.Names2Prog
namespace Go.Proofs.Ytpbeafgfhnlmbaa
set_option maxRecDepth 100000
open Go.ChangeShapes Go.WideShapes Go.ChangeAt Go.RowKit Go.Maps Go.Sort
def sortLay_ren : Go.Shelf.Ren := ⟨fun | 5 => 46 | 8 => 51 | 7 => 50 | 19 => 63 | 20 => 64 | 10 => 54 | 11 => 55 | 12 => 56 | 13 => 57 | 14 => 58 | 15 => 59 | 16 => 60 | 17 => 61 | 18 => 62 | 30 => 65 | 31 => 66 | 32 => 67 | 33 => 68 | 34 => 69 | 35 => 70 | 40 => 71 | n => n, fun | 23 => 32 | 25 => 3 | 3 => 3 | 32 => 65 | 22 => 32 | 0 => 0 | 44 => 121 | 46 => 64 | 4 => 4 | 36 => 114 | 35 => 113 | 41 => 109 | 5 => 5 | 9 => 9 | 53 => 123 | 57 => 127 | 63 => 130 | 64 => 131 | n => n, fun | n => n⟩
theorem sortLay : Go.Proofs.SlLaysM.n5 Try.prog sortLay_ren := {
  mixed := by kernel_rfl
  f5 := ⟨Try.f46.name, by decide, Try.func46.trans (congrArg some (by kernel_rfl))⟩
  f7 := ⟨Try.f50.name, by decide, Try.func50.trans (congrArg some (by kernel_rfl))⟩
  f8 := Try.func51.trans (congrArg some (by kernel_rfl))
  f10 := ⟨Try.f54.name, by decide, Try.func54.trans (congrArg some (by kernel_rfl))⟩
  f11 := ⟨Try.f55.name, by decide, Try.func55.trans (congrArg some (by kernel_rfl))⟩
  f12 := ⟨Try.f56.name, by decide, Try.func56.trans (congrArg some (by kernel_rfl))⟩
  f13 := ⟨Try.f57.name, by decide, Try.func57.trans (congrArg some (by kernel_rfl))⟩
  f14 := ⟨Try.f58.name, by decide, Try.func58.trans (congrArg some (by kernel_rfl))⟩
  f15 := ⟨Try.f59.name, by decide, Try.func59.trans (congrArg some (by kernel_rfl))⟩
  f16 := ⟨Try.f60.name, by decide, Try.func60.trans (congrArg some (by kernel_rfl))⟩
  f17 := ⟨Try.f61.name, by decide, Try.func61.trans (congrArg some (by kernel_rfl))⟩
  f18 := ⟨Try.f62.name, by decide, Try.func62.trans (congrArg some (by kernel_rfl))⟩
  f19 := Try.func63.trans (congrArg some (by kernel_rfl))
  f20 := Try.func64.trans (congrArg some (by kernel_rfl))
  f30 := ⟨Try.f65.name, by decide, Try.func65.trans (congrArg some (by kernel_rfl))⟩
  f31 := Try.func66.trans (congrArg some (by kernel_rfl))
  f32 := Try.func67.trans (congrArg some (by kernel_rfl))
  f33 := ⟨Try.f68.name, by decide, Try.func68.trans (congrArg some (by kernel_rfl))⟩
  f34 := ⟨Try.f69.name, by decide, Try.func69.trans (congrArg some (by kernel_rfl))⟩
  f35 := ⟨Try.f70.name, by decide, Try.func70.trans (congrArg some (by kernel_rfl))⟩
  f40 := ⟨Try.f71.name, by decide, Try.func71.trans (congrArg some (by kernel_rfl))⟩
  t0 := Try.underlying0
  a0 := Try.isAgg0
  z0 := Try.sizeOf0
  v0 := Try.zeroValue0
  t3 := Try.underlying3
  a3 := Try.isAgg3
  z3 := Try.sizeOf3
  v3 := Try.zeroValue3
  t4 := Try.underlying4
  a4 := Try.isAgg4
  z4 := Try.sizeOf4
  v4 := Try.zeroValue4
  t5 := Try.underlying5
  a5 := Try.isAgg5
  z5 := Try.sizeOf5
  v5 := Try.zeroValue5
  t9 := Try.underlying9
  a9 := Try.isAgg9
  z9 := Try.sizeOf9
  v9 := Try.zeroValue9
  t22 := Try.underlying32
  a22 := Try.isAgg32
  z22 := Try.sizeOf32
  v22 := Try.zeroValue32
  t23 := Try.underlying32
  a23 := Try.isAgg32
  z23 := Try.sizeOf32
  v23 := Try.zeroValue32
  t25 := Try.underlying3
  a25 := Try.isAgg3
  z25 := Try.sizeOf3
  v25 := Try.zeroValue3
  t32 := Try.underlying65
  a32 := Try.isAgg65
  z32 := Try.sizeOf65
  v32 := Try.zeroValue65
  t35 := Try.underlying113
  a35 := Try.isAgg113
  z35 := Try.sizeOf113
  v35 := Try.zeroValue113
  t36 := Try.underlying114
  a36 := Try.isAgg114
  z36 := Try.sizeOf114
  v36 := Try.zeroValue114
  t41 := Try.underlying109
  a41 := Try.isAgg109
  z41 := Try.sizeOf109
  v41 := Try.zeroValue109
  t44 := Try.underlying121
  a44 := Try.isAgg121
  z44 := Try.sizeOf121
  v44 := Try.zeroValue121
  t46 := Try.underlying64
  a46 := Try.isAgg64
  z46 := Try.sizeOf64
  v46 := Try.zeroValue64
  t53 := Try.underlying123
  a53 := Try.isAgg123
  z53 := Try.sizeOf123
  v53 := Try.zeroValue123
  t57 := Try.underlying127
  a57 := Try.isAgg127
  z57 := Try.sizeOf127
  v57 := Try.zeroValue127
  t63 := Try.underlying130
  a63 := Try.isAgg130
  z63 := Try.sizeOf130
  v63 := Try.zeroValue130
  t64 := Try.underlying131
  a64 := Try.isAgg131
  z64 := Try.sizeOf131
  v64 := Try.zeroValue131 }
def compactLay_ren : Go.Shelf.Ren := ⟨fun | 20 => 47 | n => n, fun | 22 => 32 | 3 => 3 | 4 => 4 | 0 => 0 | n => n, fun | n => n⟩
theorem compactLay : Go.Proofs.Lays2.n20 Try.prog compactLay_ren := {
  mixed := by kernel_rfl
  f20 := Try.func47.trans (congrArg some (by kernel_rfl))
  t0 := Try.underlying0
  a0 := Try.isAgg0
  z0 := Try.sizeOf0
  v0 := Try.zeroValue0
  t3 := Try.underlying3
  a3 := Try.isAgg3
  z3 := Try.sizeOf3
  v3 := Try.zeroValue3
  t4 := Try.underlying4
  a4 := Try.isAgg4
  z4 := Try.sizeOf4
  v4 := Try.zeroValue4
  t22 := Try.underlying32
  a22 := Try.isAgg32
  z22 := Try.sizeOf32
  v22 := Try.zeroValue32
  i3 := by kernel_rfl }

/-- A row of ints of the call's own that may be written. -/
def RowS (w : World) (B : Nat) (v : Value) (l : List Int) : Prop := (v = .slice none 0 0 ∧ l = []) ∨ ∃ g cap, v = .slice (some ⟨g, 0, none⟩) l.length cap ∧ B ≤ g ∧ g < w.heap.size ∧ l.length ≤ cap ∧ cap ≤ maxLen ∧ Holds (Value.int .i64) w g 0 l.toArray
theorem OwnL.rows {w : World} {B : Nat} {v : Value} {l : List Int} (h : OwnL w B v l) : RowS w B v l := by
  rcases h.2 with ⟨rfl, e2⟩ | ⟨g, cap, cur, rfl, h2, h3, h4, h5, h6, h7⟩
  · exact Or.inl ⟨rfl, List.eq_nil_of_length_eq_zero e2⟩
  · have hlt : g < w.heap.size := by
      rcases Nat.lt_or_ge g w.heap.size with hh | hh
      · exact hh
      · rw [Array.getElem?_eq_none hh] at h3; cases h3
    refine Or.inr ⟨g, cap, rfl, h2, hlt, h4, h5, fun j hj => ⟨?_, ?_⟩⟩
    · have hj' : j < l.length := by simpa using hj
      have h8 : (l.map (Value.int .i64))[j]? = some (.int .i64 l[j]) := by simp [hj']
      rw [← h7, List.getElem?_take] at h8
      split at h8
      · rw [cell_of_row _ _ _ _ _ _ h3, Nat.zero_add]
        have : (l.toArray)[j]! = l[j] := by simp [hj']
        rw [this]
        simpa using h8
      · cases h8
    · unfold World.frozen?
      rw [h3]
      simp
theorem putRow_block {w : World} {g off : Nat} {d : Array Int} {k : Nat} (n : Nat) (hk : k ≠ g) : (putRow (Value.int .i64) (Sort.ahead w n) g off d).heap[k]? = w.heap[k]? := by
  have hg : g ≠ k := fun e => hk e.symm
  simp [putRow, mapBlock, Sort.ahead, Array.getElem?_modify, hg]
theorem sort_own {w : World} {B : Nat} {v : Value} {l : List Int} (h : RowS w B v l) (hn : l.length ≤ 1000000) :
    Calls Try.prog 46 #[v] w fun r w' => r = .returned (.tuple #[]) ∧ RowS w' B v (srtL l) ∧ Below B w w' := by
  rcases h with ⟨rfl, rfl⟩ | ⟨g, cap, rfl, h1, h2, h3, h4, hH⟩
  · refine Calls.mono (AnyM.slices_Sort_int_none sortLay none 0 w) ?_
    rintro e w' ⟨rfl, rfl⟩
    exact ⟨rfl, Or.inl ⟨rfl, by simp [srtL]⟩, Below.refl _ _⟩
  · refine Calls.mono (AnyM.slices_Sort_int sortLay g 0 cap l w hH h2 (by omega)) ?_
    rintro e w' ⟨rfl, n, os, rfl⟩
    have hl := srtL_len l
    have hsz : (srtL l).toArray.size = l.toArray.size := by simp
    have hP := holds_putRow (Value.int .i64) (Sort.ahead w n) g 0 l.toArray (srtL l).toArray hH hsz
    have kb : ∀ k, k < w.heap.size → (grow (putRow (Value.int .i64) (Sort.ahead w n) g 0 (srtL l).toArray) os).heap[k]? = (putRow (Value.int .i64) (Sort.ahead w n) g 0 (srtL l).toArray).heap[k]? := fun k hk => heap_grow_old _ _ (by simpa using hk)
    refine ⟨rfl, Or.inr ⟨g, cap, by rw [hl], h1, by simp; omega, by rw [hl]; exact h3, h4, fun j hj => ?_⟩, ⟨rfl, rfl, rfl, by simp, fun k hk => ?_⟩⟩
    · rw [World.cell?_of_block (a := ⟨g, 0 + j, none⟩) (kb g h2), World.frozen?_of_block (a := ⟨g, 0 + j, none⟩) (kb g h2)]
      exact hP j hj
    · by_cases hks : k < w.heap.size
      · rw [kb k hks, putRow_block n (by omega)]
      · omega
theorem compact_own {w : World} {B : Nat} {v : Value} {l : List Int} (h : RowS w B v l) (hn : l.length ≤ 1000000) :
    Calls Try.prog 47 #[v] w fun r w' => ∃ v', r = .returned v' ∧ NwL B w' v' (Lib.compact l) ∧ Below B w w' := by
  rcases h with ⟨rfl, rfl⟩ | ⟨g, cap, rfl, h1, h2, h3, h4, hH⟩
  · refine Calls.mono (Any.slices_Compact_int_empty compactLay none 0 w) ?_
    rintro e w' ⟨rfl, rfl⟩
    exact ⟨_, rfl, nwl_nil _ _, Below.refl _ _⟩
  · refine Calls.mono (Any.slices_Compact_int compactLay g 0 cap l w hH (by omega) h3) ?_
    rintro e w' ⟨rfl, n, rfl⟩
    have hcl := comp_len l
    have hsz : (Lib.compact l ++ List.replicate (l.length - (Lib.compact l).length) 0).toArray.size = l.toArray.size := by simp; omega
    have hP := holds_putRow (Value.int .i64) (Sort.ahead w n) g 0 l.toArray _ hH hsz
    refine ⟨_, rfl, ⟨⟨some ⟨g, 0, none⟩, cap, rfl, by omega, rfl, by omega, (fun e => by cases e), Or.inr ⟨g, 0, rfl, by simpa using h2, fun i a hi => ⟨[.int .i64 a], rfl, fun q u hq => ?_⟩⟩⟩, (fun a n c e => by cases e; exact h1)⟩, ⟨rfl, rfl, rfl, by simp, fun k hk => putRow_block n (by omega)⟩⟩
    match q, hq with
    | 0, hq =>
      simp at hq
      subst hq
      have hil := (List.getElem?_eq_some_iff.1 hi).1
      have hp := (hP i (by simp; omega)).1
      have e1 : (Lib.compact l ++ List.replicate (l.length - (Lib.compact l).length) 0).toArray[i]! = a := by
        have : (Lib.compact l ++ List.replicate (l.length - (Lib.compact l).length) (0 : Int))[i]? = some a := by rw [List.getElem?_append_left hil]; exact hi
        simp [this]
      rw [e1] at hp
      simpa [elI] using hp
    | q + 1, hq => simp at hq
end Go.Proofs.Ytpbeafgfhnlmbaa
